import PyProof.Rows.All
import Wide.All
import OpenK.AllK
import Wide.FinOn
import Lean
import PyProof.EqAt
import PyProof.EqKinds
import PyProof.TupleCall
import PySem.Challenge.RW_redo_k82_lines_as_texts
set_option Elab.async false
set_option linter.all false
set_option maxRecDepth 100000
namespace L2
open PySem PySem.Spec PyProof.Rows
noncomputable abbrev Key := Sum Int Str
noncomputable def keyIs : Key → Value → Bool
  | .inl k, v => Value.isInt k v
  | .inr x, v => Value.isStrOf x v
noncomputable def keyH (w : World) : Key → Int
  | .inl k => hashInt k
  | .inr x => hashStr w x
theorem keyIs_shape : ∀ {k : Key} {v : Value}, keyIs k v = true → (∃ i t, k = Sum.inl i ∧ v = Value.int i t) ∨ (∃ x t, k = Sum.inr x ∧ v = Value.str x t)
  | .inl i, v, h => by
    obtain ⟨t, e⟩ := Value.isInt_shape (k := i) (v := v) h
    exact .inl ⟨i, t, rfl, e⟩
  | .inr x, v, h => by
    obtain ⟨t, e⟩ := Value.isStrOf_shape (x := x) (v := v) h
    exact .inr ⟨x, t, rfl, e⟩
theorem key_ll (a b : Int) : decide ((Sum.inl a : Key) = Sum.inl b) = (a == b) := by
  by_cases e : a = b
  · subst e; simp
  · have h : ¬ (Sum.inl a : Key) = Sum.inl b := fun q => e (Sum.inl.inj q)
    rw [decide_eq_false h]
    exact (beq_eq_false_iff_ne.mpr e).symm
theorem key_rr (a b : Str) : decide ((Sum.inr a : Key) = Sum.inr b) = decide (a = b) := by
  by_cases e : a = b
  · subst e; simp
  · have h : ¬ (Sum.inr a : Key) = Sum.inr b := fun q => e (Sum.inr.inj q)
    rw [decide_eq_false h, decide_eq_false e]
theorem key_lr (a : Int) (b : Str) : decide ((Sum.inl a : Key) = Sum.inr b) = false := decide_eq_false (fun q => nomatch q)
theorem key_rl (a : Str) (b : Int) : decide ((Sum.inr a : Key) = Sum.inl b) = false := decide_eq_false (fun q => nomatch q)
noncomputable def mixKind (prog : Program) (w : World) : PySem.KeyKind prog w Key where
  is := keyIs
  hash := keyH w
  inj := fun v a b ha hb => by
    rcases keyIs_shape ha with ⟨i, t, rfl, rfl⟩ | ⟨x, t, rfl, rfl⟩
    · rcases keyIs_shape hb with ⟨j, u, rfl, e⟩ | ⟨y, u, rfl, e⟩
      · injection e with e1 _; rw [e1]
      · exact nomatch e
    · rcases keyIs_shape hb with ⟨j, u, rfl, e⟩ | ⟨y, u, rfl, e⟩
      · exact nomatch e
      · injection e with e1 _; rw [e1]
  byValue := fun k v h => by
    rcases keyIs_shape h with ⟨i, t, rfl, rfl⟩ | ⟨x, t, rfl, rfl⟩ <;> rfl
  pyHash := fun hv h => by
    rcases keyIs_shape hv with ⟨i, t, rfl, rfl⟩ | ⟨x, t, rfl, rfl⟩
    · exact wpAny_pyHash_int h
    · exact wpAny_pyHash_str h
  eqBool := fun hu hv h => by
    rcases keyIs_shape hu with ⟨i, t, rfl, rfl⟩ | ⟨x, t, rfl, rfl⟩
    · rcases keyIs_shape hv with ⟨j, u, rfl, rfl⟩ | ⟨y, u, rfl, rfl⟩
      · rw [key_ll] at h; exact wpAny_eqBool_int h
      · rw [key_lr] at h; exact SeqAt.EqAt.int_str i t y u _ _ _ _ h
    · rcases keyIs_shape hv with ⟨j, u, rfl, rfl⟩ | ⟨y, u, rfl, rfl⟩
      · rw [key_rl] at h; exact SeqAt.EqAt.str_int x t j u _ _ _ _ h
      · rw [key_rr] at h; exact wpAny_eqBool_str h
  «strs» := fun k x t v h => by
    rcases keyIs_shape h with ⟨i, u, rfl, e⟩ | ⟨y, u, rfl, e⟩
    · exact nomatch e
    · injection e with e1 _
      subst e1
      cases v <;> rfl
end L2
namespace L2
open PySem PySem.Spec PyProof.Rows
inductive V where
  | non | bl (b : Bool) | int (i : Int) | str (x : Str) | byt (b : Array UInt8) | flt (b : UInt64) | ref (a : Addr) | ty (n : String)
  deriving DecidableEq
noncomputable def RelV : V → Value → Prop
  | .non, u => u = Value.none
  | .bl b, u => u = Value.bool b
  | .int i, u => ∃ t, u = Value.int i t
  | .str x, u => ∃ t, u = Value.str x t
  | .byt b, u => ∃ t, u = Value.bytes b t
  | .flt b, u => ∃ t, u = Value.float b t
  | .ref a, u => u = Value.ref a
  | .ty n, u => u = Value.type n
noncomputable abbrev Vals : List V → List Value → Prop := Paired RelV
theorem Vals.length {xs : List V} {us : List Value} (r : Vals xs us) : xs.length = us.length := Paired.length r
theorem Vals.get : ∀ {xs : List V} {us : List Value} {i : Nat} {x : V}, Vals xs us → xs[i]? = some x → ∃ u, us[i]? = some u ∧ RelV x u
  | _, _, _, _, .nil, e => by simp at e
  | _, _, 0, _, .cons r _, e => by simp at e; subst e; exact ⟨_, rfl, r⟩
  | _, _, i + 1, x, .cons _ t, e => by
    obtain ⟨u, h1, h2⟩ := Vals.get (i := i) (x := x) t (by simpa using e)
    exact ⟨u, by simpa using h1, h2⟩
theorem Vals.set {x : V} {u : Value} (r : RelV x u) : ∀ {xs : List V} {us : List Value} (i : Nat), Vals xs us → Vals (xs.set i x) (us.set i u)
  | _, _, _, .nil => .nil
  | _, _, 0, .cons _ t => .cons r t
  | _, _, i + 1, .cons q t => .cons q (Vals.set r i t)
theorem Vals.append : ∀ {xs ys : List V} {us ws : List Value}, Vals xs us → Vals ys ws → Vals (xs ++ ys) (us ++ ws)
  | _, _, _, _, .nil, s => s
  | _, _, _, _, .cons r t, s => .cons r (Vals.append t s)
theorem Vals.take : ∀ {xs : List V} {us : List Value} (n : Nat), Vals xs us → Vals (xs.take n) (us.take n)
  | _, _, 0, _ => .nil
  | _, _, _ + 1, .nil => .nil
  | _, _, n + 1, .cons r t => .cons r (Vals.take n t)
theorem Vals.drop : ∀ {xs : List V} {us : List Value} (n : Nat), Vals xs us → Vals (xs.drop n) (us.drop n)
  | _, _, 0, r => r
  | _, _, _ + 1, .nil => .nil
  | _, _, n + 1, .cons _ t => Vals.drop n t
noncomputable def RelO : Option V → Option Value → Prop
  | some v, some u => RelV v u
  | none, none => True
  | _, _ => False
noncomputable def KV {κ : Type} : List (κ × V) → List (κ × Value) → Prop := Paired fun (p : κ × V) (q : κ × Value) => p.1 = q.1 ∧ RelV p.2 q.2
noncomputable def kV : Key → V
  | .inl i => .int i
  | .inr x => .str x
inductive HO where
    | lst (xs : List V)
    | tup (xs : List V)
    | dK (kvs : List (Key × V)) | dT (kvs : List (List Key × V))
    | set (S : Int → Bool) (n : Nat)
    | ins (C dx : Addr) (fs : List (Str × V))
    | own (x : Addr)
    | xd (fs : List (Str × V))
    | met (f x : Addr)
    | rng (lo hi : Int)
    | frz (o : Obj) (u : HO)
    | tbl (ps : Array Value)
    | ext (φ : Heap → Prop)
noncomputable abbrev Hp := Addr → Option HO
noncomputable def upd (H : Hp) (a : Addr) (o : HO) : Hp := fun b => if b = a then some o else H b
theorem upd_same {H : Hp} {a : Addr} {o : HO} : upd H a o a = some o := by unfold upd; rw [if_pos rfl]
theorem upd_ne {H : Hp} {a b : Addr} {o : HO} (h : b ≠ a) : upd H a o b = H b := by unfold upd; rw [if_neg h]
theorem ne_of_none {H : Hp} {a b : Addr} {o : HO} (h : H a = some o) (h' : H b = none) : a ≠ b := by
  intro e; subst e; rw [h] at h'; cases h'
section
variable (P : Program) (w : World)
noncomputable def ObjOk (H : Hp) (h : Heap) (a : Addr) : HO → Prop
  | .lst xs => xs.length ≤ sizeLine ∧ ∃ (its : List Value) (n : Nat), Vals xs its ∧ h.get? a = some { cls := .type "list", data := .seq its.toArray n }
  | .tup xs => xs.length ≤ sizeLine ∧ ∃ its : List Value, Vals xs its ∧ IsTup h a its.toArray
  | .dK kvs => kvs.length ≤ sizeLine ∧ (a == sysModules) = false ∧ ∃ vs, KV kvs vs ∧ h.DictOf (mixKind P w) a vs
  | .dT kvs => kvs.length ≤ sizeLine ∧ (a == sysModules) = false ∧ ∃ xs : List (List Key × Addr × Value),
      Paired (fun (p : List Key × V) (q : List Key × Addr × Value) => p.1 = q.1 ∧ H q.2.1 = some (.tup (p.1.map kV)) ∧ RelV p.2 q.2.2) kvs xs ∧
      ∃ o es ep, h.get? a = some o ∧ o.ExactDict ∧ o.data = .dict es ep ∧ es.toList = xs.map (entryOfKey (tupleKind (mixKind P w))) ∧ (xs.map (·.1)).Nodup
  | .set S n => h.SetOf (intKind P w) a S n
  | .ins C dx fs => H dx = some (.own a) ∧ fs.length ≤ 1000 ∧ dx ≠ a ∧ h.get? a = some (PySem.W.instObj C dx) ∧
      ∃ mA, h.Ns1 dx mA ∧ (∀ f, RelO (fs.lookup f) (mA f)) ∧ PySem.Within mA (fs.map (·.1))
  | .own _ => ∃ o, h.get? a = some o
  | .xd fs => ∃ mA, h.Ns1 a mA ∧ ∀ f, RelO (fs.lookup f) (mA f)
  | .rng lo hi => ∃ t u v, h.get? a = some { cls := .type "range", data := .fields #[.int lo t, .int hi u, .int 1 v] }
  | .frz o u => h.get? a = some o ∧ ObjOk H h a u
  | .tbl ps => h.get? a = some { cls := .none, data := .fields ps }
  | .met f x => h.get? a = some (PySem.W.methodObj (.ref f) (.ref x))
  | .ext φ => φ h ∧ (∃ o, h.get? a = some o) ∧ ∀ h1 h2 : Heap, φ h1 → (∀ o, h1.get? a = some o → h2.get? a = some o) → φ h2
noncomputable def HOk (H : Hp) (h : Heap) : Prop := ∀ a o, H a = some o → ObjOk P w H h a o
end
section
variable {P : Program} {w : World} {H H' : Hp} {h h' : Heap} {a : Addr} {o : HO}
theorem ObjOk.lt (x : ObjOk P w H h a o) : a < h.objs.size := by
  cases o with
  | lst xs => obtain ⟨_, _, _, _, e⟩ := x; exact Heap.lt_size e
  | tup xs => obtain ⟨_, _, _, p⟩ := x; exact p.lt
  | dK kvs => obtain ⟨_, _, _, _, o, _, _, e, _⟩ := x; exact Heap.lt_size e
  | dT kvs => obtain ⟨_, _, _, _, o, _, _, e, _⟩ := x; exact Heap.lt_size e
  | set S n => obtain ⟨o, _, _, _, e, _⟩ := x; exact Heap.lt_size e
  | ins C dx fs => obtain ⟨_, _, _, e, _⟩ := x; exact Heap.lt_size e
  | own y => obtain ⟨_, e⟩ := x; exact Heap.lt_size e
  | xd fs => obtain ⟨_, ⟨_, _, _, e, _⟩, _⟩ := x; exact Heap.lt_size e
  | rng lo hi => obtain ⟨_, _, _, e⟩ := x; exact Heap.lt_size e
  | frz ob u => obtain ⟨e, _⟩ := x; exact Heap.lt_size e
  | tbl ps => exact Heap.lt_size (show h.get? a = some _ from x)
  | met f y => exact Heap.lt_size (show h.get? a = some _ from x)
  | ext φ => obtain ⟨_, ⟨_, e⟩, _⟩ := x; exact Heap.lt_size e
theorem Paired.mapP {α β : Type} {F G : α → β → Prop} : ∀ {l₁ : List α} {l₂ : List β}, Paired F l₁ l₂ → (∀ a b, F a b → G a b) → Paired G l₁ l₂
  | _, _, .nil, _ => .nil
  | _, _, .cons r t, f => .cons (f _ _ r) (Paired.mapP t f)
theorem ObjOk.stay (x : ObjOk P w H h a o) (k : ∀ b u, (b = a ∨ H b = some (.own a)) → h.get? b = some u → h'.get? b = some u)
    (ho : ∀ b, H b = some (.own a) → H' b = some (.own a)) (ht : ∀ b xs, H b = some (.tup xs) → H' b = some (.tup xs)) : ObjOk P w H' h' a o := by
  induction o with
  | lst xs => obtain ⟨z, its, n, r, e⟩ := x; exact ⟨z, its, n, r, k _ _ (.inl rfl) e⟩
  | tup xs => obtain ⟨z, its, r, ob, e, c⟩ := x; exact ⟨z, its, r, ob, k _ _ (.inl rfl) e, c⟩
  | dK kvs => obtain ⟨z, y, vs, r, ob, es, ep, e, c⟩ := x; exact ⟨z, y, vs, r, ob, es, ep, k _ _ (.inl rfl) e, c⟩
  | dT kvs =>
    obtain ⟨z, y, xs, r, ob, es, ep, e, c⟩ := x
    exact ⟨z, y, xs, Paired.mapP r fun p q z => ⟨z.1, ht _ _ z.2.1, z.2.2⟩, ob, es, ep, k _ _ (.inl rfl) e, c⟩
  | set S n => obtain ⟨ob, es, ep, t, e, c⟩ := x; exact ⟨ob, es, ep, t, k _ _ (.inl rfl) e, c⟩
  | ins C dx fs =>
    obtain ⟨d, z, ne, e, mA, ⟨od, es, ep, e2, c⟩, r⟩ := x
    exact ⟨ho _ d, z, ne, k _ _ (.inl rfl) e, mA, ⟨od, es, ep, k _ _ (.inr d) e2, c⟩, r⟩
  | own y => obtain ⟨ob, e⟩ := x; exact ⟨ob, k _ _ (.inl rfl) e⟩
  | xd fs => obtain ⟨mA, ⟨od, es, ep, e, c⟩, r⟩ := x; exact ⟨mA, ⟨od, es, ep, k _ _ (.inl rfl) e, c⟩, r⟩
  | rng lo hi => obtain ⟨t, u, v, e⟩ := x; exact ⟨t, u, v, k _ _ (.inl rfl) e⟩
  | frz ob u ih => obtain ⟨e, q⟩ := x; exact ⟨k _ _ (.inl rfl) e, ih q⟩
  | tbl ps =>
    have e : h.get? a = some { cls := .none, data := .fields ps } := x
    show h'.get? a = some { cls := .none, data := .fields ps }
    exact k a _ (.inl rfl) e
  | met f y =>
    have e : h.get? a = some (PySem.W.methodObj (.ref f) (.ref y)) := x
    show h'.get? a = some (PySem.W.methodObj (.ref f) (.ref y))
    exact k a _ (.inl rfl) e
  | ext φ => obtain ⟨p, ⟨o, e⟩, st⟩ := x; exact ⟨st _ _ p fun o q => k _ _ (.inl rfl) q, ⟨o, k _ _ (.inl rfl) e⟩, st⟩
theorem HOk.lt (x : HOk P w H h) (e : H a = some o) : a < h.objs.size := (x a o e).lt
theorem HOk.fresh (x : HOk P w H h) (e : h.objs.size ≤ a) : H a = none := by
  cases q : H a with
  | none => rfl
  | some u => exact absurd (Nat.lt_of_lt_of_le (x.lt q) e) (Nat.lt_irrefl _)
theorem HOk.kept (x : HOk P w H h) (k : ∀ b u, h.get? b = some u → h'.get? b = some u) : HOk P w H h' := fun a o e =>
  (x a o e).stay (fun b u _ q => k b u q) (fun _ q => q) fun _ _ q => q
theorem HOk.laid (x : HOk P w H h) (k : ∀ b u, h.get? b = some u → h'.get? b = some u) (hp : h.objs.size ≤ a) (new : ObjOk P w (upd H a o) h' a o) : HOk P w (upd H a o) h' := fun b u e => by
  have hn := x.fresh hp
  by_cases hb : b = a
  · subst hb; rw [upd_same] at e; cases e; exact new
  · rw [upd_ne hb] at e
    exact (x b u e).stay (fun c v _ q => k c v q) (fun c q => by rw [upd_ne (ne_of_none q hn)]; exact q) fun c xs q => by rw [upd_ne (ne_of_none q hn)]; exact q
end
noncomputable def Rd (H : Hp) (a : Addr) (u : HO) : Prop := H a = some u ∨ ∃ o, H a = some (.frz o u)
theorem Rd.of {H : Hp} {a : Addr} {u : HO} (h : H a = some u) : Rd H a u := .inl h
theorem Rd.ok {P : Program} {w : World} {H : Hp} {h : Heap} {a : Addr} {u : HO} (r : Rd H a u) (x : HOk P w H h) : ObjOk P w H h a u := by
  rcases r with r | ⟨o, r⟩
  · exact x a u r
  · obtain ⟨_, q⟩ := x a _ r
    exact q
noncomputable def Mut : Option HO → Prop
  | some (.lst _) => True
  | some (.dK _) => True
  | some (.dT _) => True
  | some (.set _ _) => True
  | some (.ins _ _ _) => True
  | some (.ext _) => True
  | _ => False
section
variable {P : Program} {w : World} {H : Hp} {h h' : Heap} {x e : Addr} {o' : HO}
theorem HOk.write (ok : HOk P w H h) (mu : Mut (H x)) (he : e = x ∨ H e = some (.own x)) (k : ∀ b u, b ≠ e → h.get? b = some u → h'.get? b = some u) (heo : ∃ u, h'.get? e = some u)
    (new : ObjOk P w (upd H x o') h' x o') : HOk P w (upd H x o') h' := fun b u q => by
  have nown : ∀ c y, H c = some (.own y) → c ≠ x := fun c y r z => by subst z; rw [r] at mu; exact mu
  have ntup : ∀ c xs, H c = some (.tup xs) → c ≠ x := fun c xs r z => by subst z; rw [r] at mu; exact mu
  by_cases hb : b = x
  · subst hb; rw [upd_same] at q; cases q; exact new
  · rw [upd_ne hb] at q
    by_cases hbe : b = e
    · have q' : H b = some (.own x) := by
        rcases he with z | z
        · exact absurd (hbe.trans z) hb
        · rw [hbe]; exact z
      rw [q] at q'; cases q'
      obtain ⟨v, hv⟩ := heo
      exact ⟨v, by rw [hbe]; exact hv⟩
    · refine (ok b u q).stay (fun c v hc r => k c v ?_ r) (fun c r => by rw [upd_ne (nown c b r)]; exact r) fun c xs r => by rw [upd_ne (ntup c xs r)]; exact r
      rcases hc with rfl | hc
      · exact hbe
      · rintro rfl
        rcases he with z | z
        · exact nown c b hc z
        · rw [hc] at z; cases z; exact hb rfl
end
structure Un (fs ex : List Addr) (H H' : Hp) (h h' : Heap) : Prop where
  keep : ∀ b o, h.get? b = some o → H b = none → b ∉ fs → b ∉ ex → h'.get? b = some o
  slot : ∀ b o, h.get? b = some o → H b = none → b ∈ fs → b ∉ ex → ∃ sl, h'.get? b = some { o with slots := sl }
  free : ∀ b o, h.get? b = some o → H b = none → b ∉ ex → H' b = none
  there : ∀ b o, h.get? b = some o → b ∉ ex → ∃ o', h'.get? b = some o'
  tups : ∀ b xs, H b = some (.tup xs) → H' b = some (.tup xs)
  frzs : ∀ b o u, H b = some (.frz o u) → H' b = some (.frz o u)
  tbls : ∀ b ps, H b = some (.tbl ps) → ∃ more, H' b = some (.tbl (ps ++ more))
section
variable {fs fs' ex ex' : List Addr} {H H1 H2 : Hp} {h h1 h2 h' : Heap} {a x e : Addr} {o : HO}
theorem Un.any (u : Un fs ex H H1 h h1) {b : Addr} {ob : Obj} (q : h.get? b = some ob) (n : H b = none) (hx : b ∉ ex) : ∃ sl, h1.get? b = some { ob with slots := sl } := by
  by_cases hb : b ∈ fs
  · exact u.slot b ob q n hb hx
  · exact ⟨ob.slots, u.keep b ob q n hb hx⟩
theorem Un.trans (a : Un fs ex H H1 h h1) (b : Un fs ex H1 H2 h1 h2) : Un fs ex H H2 h h2 where
  keep := fun c ob q n hc hx => b.keep c ob (a.keep c ob q n hc hx) (a.free c ob q n hx) hc hx
  slot := fun c ob q n hc hx => by
    obtain ⟨sl, e1⟩ := a.slot c ob q n hc hx
    obtain ⟨sl', e2⟩ := b.slot c _ e1 (a.free c ob q n hx) hc hx
    exact ⟨sl', e2⟩
  free := fun c ob q n hx => by
    obtain ⟨o', e1⟩ := a.there c ob q hx
    exact b.free c o' e1 (a.free c ob q n hx) hx
  there := fun c ob q hx => by
    obtain ⟨o', e1⟩ := a.there c ob q hx
    exact b.there c o' e1 hx
  tups := fun c xs q => b.tups c xs (a.tups c xs q)
  frzs := fun c ob xs q => b.frzs c ob xs (a.frzs c ob xs q)
  tbls := fun c ps q => by
    obtain ⟨m1, e1⟩ := a.tbls c ps q
    obtain ⟨m2, e2⟩ := b.tbls c _ e1
    exact ⟨m1 ++ m2, by rw [e2, Array.append_assoc]⟩
theorem Un.kept (k : ∀ b u, h.get? b = some u → h'.get? b = some u) : Un fs ex H H h h' :=
  ⟨fun b ob q _ _ _ => k b ob q, fun b ob q _ _ _ => ⟨ob.slots, k b ob q⟩, fun _ _ _ n _ => n, fun b ob q _ => ⟨ob, k b ob q⟩, fun _ _ q => q, fun _ _ _ q => q, fun _ ps q => ⟨#[], by rw [q]; simp⟩⟩
theorem Un.refl : Un fs ex H H h h := Un.kept fun _ _ q => q
theorem Un.laid (k : ∀ b u, h.get? b = some u → h'.get? b = some u) (hp : h.objs.size ≤ a) (hn : H a = none) : Un fs ex H (upd H a o) h h' where
  keep := fun b u q _ _ _ => k b u q
  slot := fun b u q _ _ _ => ⟨u.slots, k b u q⟩
  free := fun b u q n _ => by rw [upd_ne (Nat.ne_of_lt (Nat.lt_of_lt_of_le (Heap.lt_size q) hp))]; exact n
  there := fun b u q _ => ⟨u, k b u q⟩
  tups := fun b xs q => by rw [upd_ne (ne_of_none q hn)]; exact q
  frzs := fun b u xs q => by rw [upd_ne (ne_of_none q hn)]; exact q
  tbls := fun b ps q => ⟨#[], by rw [upd_ne (ne_of_none q hn), q]; simp⟩
theorem Un.write (mu : Mut (H x)) (he : e = x ∨ H e = some (.own x)) (k : ∀ b u, b ≠ e → h.get? b = some u → h'.get? b = some u) (heo : ∃ u, h'.get? e = some u) : Un fs ex H (upd H x o) h h' := by
  have hx : ∀ b, H b = none → b ≠ x := fun b n z => by subst z; rw [n] at mu; exact mu
  have hb : ∀ b, H b = none → b ≠ e := fun b n z => by
    subst z
    rcases he with r | r
    · exact hx b n r
    · rw [n] at r; cases r
  have hm : ∀ b u, H b = some u → ¬ Mut (some u) → b ≠ x := fun b u q nm z => by subst z; rw [q] at mu; exact nm mu
  refine ⟨fun b u q n _ _ => k b u (hb b n) q, fun b u q n _ _ => ⟨u.slots, k b u (hb b n) q⟩, fun b u q n _ => by rw [upd_ne (hx b n)]; exact n, fun b u q _ => ?_,
    fun b xs q => by rw [upd_ne (hm b _ q fun z => z)]; exact q, fun b u xs q => by rw [upd_ne (hm b _ q fun z => z)]; exact q, fun b ps q => ⟨#[], by rw [upd_ne (hm b _ q fun z => z), q]; simp⟩⟩
  by_cases hbe : b = e
  · subst hbe; exact heo
  · exact ⟨u, k b u hbe q⟩
theorem Un.mono (u : Un fs ex H H1 h h1) (hs : ∀ b ∈ fs, b ∈ fs') (hx : ∀ b ∈ ex, b ∈ ex') : Un fs' ex' H H1 h h1 :=
  ⟨fun b ob q n hb he => u.keep b ob q n (fun z => hb (hs b z)) fun z => he (hx b z), fun _ _ q n _ he => u.any q n fun z => he (hx _ z), fun b ob q n he => u.free b ob q n fun z => he (hx b z), fun b ob q he => u.there b ob q fun z => he (hx b z), u.tups, u.frzs, u.tbls⟩
end
noncomputable def trk (h : Heap) (H : Hp) : List Addr := (List.range h.objs.size).filter fun a => (H a).isSome
noncomputable def hidT (h : Heap) (H : Hp) : Heap := PySem.W.hideAll h (trk h H)
theorem hidT_size (h : Heap) (H : Hp) : (hidT h H).objs.size = h.objs.size := PySem.W.hideAll_size _ _
theorem hidT_get {h : Heap} {H : Hp} {b : Addr} {o : Obj} (e : h.get? b = some o) (n : H b = none) : (hidT h H).get? b = some o :=
  PySem.W.hideAll_get _ e fun hm => by
    have q : (H b).isSome = true := (List.mem_filter.mp hm).2
    rw [n] at q; simp at q
theorem of_hidT {h : Heap} {H : Hp} {b : Addr} {o : Obj} (e : (hidT h H).get? b = some o) : h.get? b = some o ∧ H b = none := by
  have e' : h.get? b = some o := PySem.W.of_hideAll (trk h H) e
  refine ⟨e', ?_⟩
  cases q : H b with
  | none => rfl
  | some x =>
    have hm : b ∈ trk h H := List.mem_filter.mpr ⟨List.mem_range.mpr (Heap.lt_size e'), by simp [q]⟩
    have z : (hidT h H).get? b = none := PySem.W.hideAll_none (trk h H) hm
    rw [z] at e; cases e
noncomputable def allNews (g h : Heap) (L : Addr) : List (Addr × Obj) := (List.range h.objs.size).filterMap fun a => if a = L ∨ (g.get? a).isSome = true then none else (h.get? a).map fun o => (a, o)
noncomputable def rest (g h : Heap) (L d : Addr) : List (Addr × Obj) := (allNews g h L).filter fun p => decide (p.1 ≠ d)
end L2
namespace L2
open PySem PySem.Spec PyProof.Rows
structure Mod (K : PySem.W.Frag) (mg : Str → Option Value) (base : Heap) : Prop where
  kin : K.In base
  glob : base.Ns mainGlobals mg
  blt : ∃ mb, base.Ns builtinsNs mb ∧ ∀ x : Str, x ≠ "__name__" → mb x = bootBuiltins x
  nolimit : base.NoLimit
structure Cx where
  prog : Program
  w : World
  K : PySem.W.Frag
  mg : Str → Option Value
  base : Heap
  A : Around
  N : List Str
  s₀ : Shared
  H₀ : Hp
  env : Env
  outer : List Env
  stack : List Env
  ex : List Addr
  fn : Str → Bool
  calm : Bool
  pn : List (Addr × Obj)
  xe : Value → Shared → Prop
noncomputable def frs (l : List Env) : List Addr := l.filterMap (·.frame)
noncomputable abbrev Cx.fs (X : Cx) : List Addr := frs X.outer
noncomputable def Vis (sc : Scope) (x : Str) : Prop := sc.names.lookup x = some .local ∨ sc.names.lookup x = some .cell ∨ sc.names.lookup x = some .free
noncomputable def Loc (sc : Scope) (x : Str) : Prop := sc.names.lookup x = some .local ∨ sc.names.lookup x = some .cell
noncomputable def Look (env : Env) (h : Heap) (m : Str → Option Value) (x : Str) (u : Value) : Prop :=
  (env.kindOf x = some .local ∧ m x = some u) ∨ ((env.kindOf x = some .cell ∨ env.kindOf x = some .free) ∧ ∃ c, env.cells.lookup x = some c ∧ h.IsCell c (some u))
structure Cx.Ok (X : Cx) : Prop where
  mod : Mod X.K X.mg X.base
  kind : X.env.scope.kind = .function
  glob : X.env.globals = mainGlobals
  blt : X.env.builtins = builtinsNs
  above : X.s₀.heap.objs.size ≤ X.env.locals
  inj : ∀ x y c, X.env.cells.lookup x = some c → X.env.cells.lookup y = some c → x = y
  has : ∀ x, (X.env.kindOf x = some .cell ∨ X.env.kindOf x = some .free) → ∃ c, X.env.cells.lookup x = some c
  cab : ∀ x c, X.fn x = true → X.env.cells.lookup x = some c → X.s₀.heap.objs.size ≤ c
  hd : X.calm = true → X.A.handled = none
  frames : X.A.frames = some X.stack
  stk : X.stack = X.outer ∨ (X.stack = X.env :: X.outer ∧ X.env.frame = some X.env.locals)
  exf : ∀ b ∈ X.ex, b ≠ X.env.locals ∧ ∀ x c, X.env.cells.lookup x = some c → c ≠ b
  bs : ∀ b o, X.base.get? b = some o → X.s₀.heap.get? b = some o ∧ X.H₀ b = none
  bsz : X.base.objs.size ≤ X.s₀.heap.objs.size
  noex : ∀ b o, X.base.get? b = some o → b ∉ X.ex
  exfs : ∀ b ∈ X.ex, b ∉ X.fs
  funs : X.s₀.heap.FunFrames X.base X.outer
  frf : ∀ b ∈ X.fs, X.H₀ b = none
structure Inv (X : Cx) (pins : List (Addr × Obj)) (σ : List (Option V)) (H : Hp) (s : Shared) : Prop where
  ok : X.Ok
  os : s.os = X.s₀.os
  bare : AllBare s.gens
  base : Un X.fs X.ex X.H₀ H X.s₀.heap s.heap
  loc : ∃ m, s.heap.Ns X.env.locals m ∧ ∀ (i : Nat) (x : Str) (v : V), X.N[i]? = some x → σ[i]? = some (some v) → Vis X.env.scope x → ∃ u, RelV v u ∧ Look X.env s.heap m x u
  cell : ∀ x c, X.env.cells.lookup x = some c → ∃ v, s.heap.IsCell c v
  free : H X.env.locals = none
  freeC : ∀ x c, X.env.cells.lookup x = some c → H c = none
  pin : ∀ p ∈ X.pn ++ pins, s.heap.get? p.1 = some p.2 ∧ H p.1 = none ∧ p.1 ≠ X.env.locals ∧ p.1 ∉ X.fs ∧ ∀ v, p.2.data ≠ .cell v
  hok : HOk X.prog X.w H s.heap
  len : σ.length = X.N.length
section
variable {X : Cx} {pins : List (Addr × Obj)} {σ : List (Option V)} {H H' : Hp} {s : Shared} {h' : Heap}
theorem Cx.Ok.nofr (ok : X.Ok) {b : Addr} {o : Obj} (e : X.base.get? b = some o) : b ∉ X.fs := fun hb => by
  have := (ok.funs.mem hb).1
  rw [e] at this; cases this
theorem Inv.bs (I : Inv X pins σ H s) : ∀ b o, X.base.get? b = some o → s.heap.get? b = some o ∧ H b = none := fun b o e =>
  ⟨I.base.keep b o (I.ok.bs b o e).1 (I.ok.bs b o e).2 (I.ok.nofr e) (I.ok.noex b o e), I.base.free b o (I.ok.bs b o e).1 (I.ok.bs b o e).2 (I.ok.noex b o e)⟩
theorem Inv.bk (I : Inv X pins σ H s) : ∀ b o, X.base.get? b = some o → s.heap.get? b = some o := fun b o e => (I.bs b o e).1
theorem Inv.mod (I : Inv X pins σ H s) : Mod X.K X.mg X.base := I.ok.mod
theorem Inv.kIn (I : Inv X pins σ H s) : X.K.In s.heap := I.ok.mod.kin.keeps I.bk
theorem Inv.nolimit (I : Inv X pins σ H s) : s.heap.NoLimit := I.ok.mod.nolimit.keeps I.bk
theorem Inv.fr (I : Inv X pins σ H s) : ∃ m, Fr X.base X.env.locals s.heap m :=
  let ⟨m, hn, _⟩ := I.loc
  ⟨m, hn, I.bk, Nat.le_trans I.ok.bsz I.ok.above⟩
theorem Inv.lt (I : Inv X pins σ H s) : X.env.locals < s.heap.objs.size := let ⟨_, hn, _⟩ := I.loc; hn.lt
theorem Inv.sz (I : Inv X pins σ H s) : X.s₀.heap.objs.size ≤ s.heap.objs.size := Nat.le_trans I.ok.above (Nat.le_of_lt I.lt)
theorem Inv.nofs (I : Inv X pins σ H s) {a : Addr} (h : s.heap.objs.size ≤ a) : a ∉ X.fs := fun hb => by
  obtain ⟨_, o, ho, _⟩ := I.ok.funs.mem hb
  exact absurd (Nat.lt_of_lt_of_le (Heap.lt_size ho) (Nat.le_trans I.sz h)) (Nat.lt_irrefl _)
theorem Inv.cne (I : Inv X pins σ H s) : ∀ x c, X.env.cells.lookup x = some c → c ≠ X.env.locals := fun x c e z => by
  obtain ⟨v, o, ho, hd⟩ := I.cell x c e
  obtain ⟨m, ⟨o', es, ep, ho', hd', _⟩, _⟩ := I.loc
  rw [z, ho'] at ho; cases ho; rw [hd'] at hd; cases hd
theorem Inv.funs (I : Inv X pins σ H s) : s.heap.FunFrames X.base X.outer := by
  have all : ∀ (l : List Env), (∀ b ∈ frs l, b ∈ X.fs) → X.s₀.heap.FunFrames X.base l → s.heap.FunFrames X.base l := by
    intro l
    induction l with
    | nil => intro _ _; trivial
    | cons env r ih =>
      intro hs hl
      obtain ⟨hk, ⟨L, o, hf, hn, ho, hd⟩, hr⟩ := hl
      have hL : L ∈ X.fs := hs L (by unfold frs; rw [List.filterMap_cons, hf]; exact List.mem_cons_self)
      obtain ⟨sl, e⟩ := I.base.slot L o ho (I.ok.frf L hL) hL fun z => I.ok.exfs L z hL
      exact ⟨hk, ⟨L, _, hf, hn, e, hd⟩, ih (fun b hb => hs b (by unfold frs; rw [List.filterMap_cons, hf]; exact List.mem_cons_of_mem _ hb)) hr⟩
  exact all X.outer (fun _ hb => hb) I.ok.funs
theorem Inv.stack (I : Inv X pins σ H s) : s.heap.FunFrames X.base X.stack := by
  rcases I.ok.stk with e | ⟨e, hf⟩
  · rw [e]; exact I.funs
  · rw [e]
    obtain ⟨m, hn, _⟩ := I.loc
    refine .cons (by rw [I.ok.kind]; decide) hf hn ?_ I.funs
    exact Heap.get?_none_of_le (Nat.le_trans I.ok.bsz I.ok.above)
theorem Inv.stkSub (I : Inv X pins σ H s) : ∀ b ∈ frs X.stack, b ∈ X.env.locals :: X.fs := fun b hb => by
  rcases I.ok.stk with e | ⟨e, hf⟩
  · rw [e] at hb; exact List.mem_cons_of_mem _ hb
  · rw [e] at hb
    unfold frs at hb
    rw [List.filterMap_cons, hf] at hb
    exact hb
theorem Inv.stkFree (I : Inv X pins σ H s) : ∀ b ∈ frs X.stack, H b = none := fun b hb => by
  rcases List.mem_cons.mp (I.stkSub b hb) with e | hb
  · rw [e]; exact I.free
  · obtain ⟨_, o, ho, _⟩ := I.ok.funs.mem hb
    exact I.base.free b o ho (I.ok.frf b hb) fun z => I.ok.exfs b z hb
theorem Inv.step {g' : Array GenState} {t' : Nat} {d' : Drawn} {ch : List Addr} (I : Inv X pins σ H s)
    (hch : ∀ b ∈ ch, (b ∈ X.ex ∨ X.s₀.heap.objs.size ≤ b) ∧ b ≠ X.env.locals ∧ (∀ x c, X.env.cells.lookup x = some c → c ≠ b) ∧ ∀ p ∈ X.pn ++ pins, p.1 ≠ b)
    (keep : ∀ b o, b ≠ X.env.locals → b ∉ X.fs → b ∉ ch → s.heap.get? b = some o → H b = none → h'.get? b = some o)
    (slot : ∀ b o, b ≠ X.env.locals → b ∈ X.fs → b ∉ ch → s.heap.get? b = some o → H b = none → ∃ sl, h'.get? b = some { o with slots := sl }) (free : ∀ b o, b ∉ ch → s.heap.get? b = some o → H b = none → H' b = none)
    (there : ∀ b o, b ∉ ch → s.heap.get? b = some o → ∃ o', h'.get? b = some o')
    (tups : ∀ b xs, H b = some (.tup xs) → H' b = some (.tup xs)) (frzs : ∀ b o u, H b = some (.frz o u) → H' b = some (.frz o u)) (tbls : ∀ b ps, H b = some (.tbl ps) → ∃ more, H' b = some (.tbl (ps ++ more)))
    (ns : ∀ m, s.heap.Ns X.env.locals m → h'.Ns X.env.locals m) (hok : HOk X.prog X.w H' h') (hg : AllBare g') :
    Inv X pins σ H' { s with heap := h', gens := g', drawn := d', toks := t' } := by
  have neL : ∀ b o, X.s₀.heap.get? b = some o → b ≠ X.env.locals := fun b o e => Nat.ne_of_lt (Nat.lt_of_lt_of_le (Heap.lt_size e) I.ok.above)
  have neC : ∀ b o, X.s₀.heap.get? b = some o → b ∉ X.ex → b ∉ ch := fun b o e hx hb => by
    rcases (hch b hb).1 with z | z
    · exact hx z
    · exact absurd (Nat.lt_of_lt_of_le (Heap.lt_size e) z) (Nat.lt_irrefl _)
  have cellK : ∀ x c, X.env.cells.lookup x = some c → ∀ v, s.heap.IsCell c v → h'.IsCell c v := fun x c e v ⟨o, ho, hd⟩ => by
    have nch : c ∉ ch := fun z => (hch c z).2.2.1 x c e rfl
    by_cases hc : c ∈ X.fs
    · obtain ⟨sl, q⟩ := slot c o (I.cne x c e) hc nch ho (I.freeC x c e)
      exact ⟨_, q, hd⟩
    · exact ⟨o, keep c o (I.cne x c e) hc nch ho (I.freeC x c e), hd⟩
  refine ⟨I.ok, I.os, hg, ⟨fun b o e n hb hx => ?_, fun b o e n hb hx => ?_, fun b o e n hx => ?_, fun b o e hx => ?_, fun b xs e => tups b xs (I.base.tups b xs e), fun b o xs e => frzs b o xs (I.base.frzs b o xs e), fun b ps e => ?_⟩, ?_, fun x c e => ?_, ?_, fun x c e => ?_, fun p hp => ?_, hok, I.len⟩
  · exact keep b o (neL b o e) hb (neC b o e hx) (I.base.keep b o e n hb hx) (I.base.free b o e n hx)
  · obtain ⟨sl, e1⟩ := I.base.slot b o e n hb hx
    obtain ⟨sl', e2⟩ := slot b _ (neL b o e) hb (neC b o e hx) e1 (I.base.free b o e n hx)
    exact ⟨sl', e2⟩
  · obtain ⟨o', e1⟩ := I.base.there b o e hx
    exact free b o' (neC b o e hx) e1 (I.base.free b o e n hx)
  · obtain ⟨o', e1⟩ := I.base.there b o e hx
    exact there b o' (neC b o e hx) e1
  · obtain ⟨m1, e1⟩ := I.base.tbls b ps e
    obtain ⟨m2, e2⟩ := tbls b _ e1
    exact ⟨m1 ++ m2, by rw [e2, Array.append_assoc]⟩
  · obtain ⟨m, hn, hl⟩ := I.loc
    refine ⟨m, ns m hn, fun i x v e1 e2 e3 => ?_⟩
    obtain ⟨u, r, l⟩ := hl i x v e1 e2 e3
    refine ⟨u, r, ?_⟩
    rcases l with l | ⟨k, c, e, z⟩
    · exact .inl l
    · exact .inr ⟨k, c, e, cellK x c e _ z⟩
  · obtain ⟨v, z⟩ := I.cell x c e
    exact ⟨v, cellK x c e v z⟩
  · obtain ⟨m, ⟨o, _, _, ho, _⟩, _⟩ := I.loc
    exact free _ o (fun z => (hch _ z).2.1 rfl) ho I.free
  · obtain ⟨v, o, ho, hd⟩ := I.cell x c e
    exact free c o (fun z => (hch c z).2.2.1 x c e rfl) ho (I.freeC x c e)
  · obtain ⟨e, n, ne, nf, d⟩ := I.pin p hp
    have nch : p.1 ∉ ch := fun z => (hch p.1 z).2.2.2 p hp rfl
    exact ⟨keep p.1 p.2 ne nf nch e n, free p.1 p.2 nch e n, ne, nf, d⟩
theorem Inv.un {t' : Nat} (I : Inv X pins σ H s) (u : Un X.fs [] H H' s.heap h') (hok : HOk X.prog X.w H' h') : Inv X pins σ H' { s with heap := h', toks := t' } := by
  obtain ⟨m, ⟨o, es, ep, ho, r⟩, _⟩ := id I.loc
  obtain ⟨sl, hL⟩ := u.any ho I.free (by simp)
  exact I.step (g' := s.gens) (d' := s.drawn) (ch := []) (fun _ z => nomatch z) (fun b o _ hb _ e n => u.keep b o e n hb (by simp)) (fun b o _ hb _ e n => u.slot b o e n hb (by simp)) (fun b o _ e n => u.free b o e n (by simp)) (fun b o _ e => u.there b o e (by simp)) u.tups u.frzs u.tbls (fun m' hm => by
    obtain ⟨o', es', ep', ho', r'⟩ := hm
    rw [ho] at ho'; cases ho'
    exact ⟨_, es', ep', hL, r'⟩) hok I.bare
theorem Inv.call {g' : Array GenState} {t' : Nat} {d' : Drawn} {ch : List Addr} (I : Inv X pins σ H s) (u : Un (frs X.stack) ch H H' s.heap h') (hok : HOk X.prog X.w H' h') (hg : AllBare g')
    (hch : ∀ b ∈ ch, (b ∈ X.ex ∨ X.s₀.heap.objs.size ≤ b) ∧ b ≠ X.env.locals ∧ (∀ x c, X.env.cells.lookup x = some c → c ≠ b) ∧ ∀ p ∈ X.pn ++ pins, p.1 ≠ b) :
    Inv X pins σ H' { s with heap := h', gens := g', drawn := d', toks := t' } := by
  obtain ⟨m, ⟨o, es, ep, ho, r⟩, _⟩ := id I.loc
  obtain ⟨sl, hL⟩ := u.any ho I.free fun z => (hch _ z).2.1 rfl
  exact I.step (ch := ch) hch (fun b o hL hb hc e n => u.keep b o e n (fun z => (List.mem_cons.mp (I.stkSub b z)).elim hL hb) hc) (fun b o _ _ hc e n => u.any e n hc) (fun b o hc e n => u.free b o e n hc) (fun b o hc e => u.there b o e hc) u.tups u.frzs u.tbls (fun m' hm => by
    obtain ⟨o', es', ep', ho', r'⟩ := hm
    rw [ho] at ho'; cases ho'
    exact ⟨_, es', ep', hL, r'⟩) hok hg
theorem Inv.turned {t' : Nat} {it : Addr} (I : Inv X pins σ H s) (k : ∀ b o, b ≠ it → s.heap.get? b = some o → h'.get? b = some o) (hn : H it = none) (hL : it ≠ X.env.locals)
    (h1 : it ∈ X.ex ∨ X.s₀.heap.objs.size ≤ it) (h2 : ∀ x c, X.env.cells.lookup x = some c → c ≠ it) (h3 : ∀ p ∈ X.pn ++ pins, p.1 ≠ it) : Inv X pins σ H { s with heap := h', toks := t' } := by
  have nit : ∀ b u, H b = some u → b ≠ it := fun b u e z => by rw [z, hn] at e; cases e
  refine I.step (g' := s.gens) (d' := s.drawn) (ch := [it]) (fun b hb => ?_) (fun b o _ _ hc e _ => k b o (fun z => hc (by simp [z])) e) (fun b o _ _ hc e _ => ⟨o.slots, k b o (fun z => hc (by simp [z])) e⟩) (fun _ _ _ _ n => n)
    (fun b o hc e => ⟨o, k b o (fun z => hc (by simp [z])) e⟩) (fun _ _ e => e) (fun _ _ _ e => e) (fun b ps e => ⟨#[], by rw [e]; simp⟩) (fun m hm => ?_) (fun b u e => ?_) I.bare
  · have e : b = it := by simpa using hb
    subst e
    exact ⟨h1, hL, h2, h3⟩
  · obtain ⟨o, es, ep, ho, r⟩ := hm
    exact ⟨o, es, ep, k _ o (Ne.symm hL) ho, r⟩
  · refine (I.hok b u e).stay (fun c v hc q => k c v ?_ q) (fun _ q => q) fun _ _ q => q
    rcases hc with z | z
    · rw [z]; exact nit b u e
    · exact nit c _ z
theorem Inv.tok (I : Inv X pins σ H s) (t : Nat) : Inv X pins σ H { s with toks := t } := I.un (h' := s.heap) (t' := t) Un.refl I.hok
theorem Inv.kept {t' : Nat} (I : Inv X pins σ H s) (k : ∀ b u, s.heap.get? b = some u → h'.get? b = some u) : Inv X pins σ H { s with heap := h', toks := t' } := I.un (Un.kept k) (I.hok.kept k)
theorem Inv.laid {a : Addr} {o : HO} {t' : Nat} (I : Inv X pins σ H s) (k : ∀ b u, s.heap.get? b = some u → h'.get? b = some u) (hp : s.heap.objs.size ≤ a) (new : ObjOk X.prog X.w (upd H a o) h' a o) :
    Inv X pins σ (upd H a o) { s with heap := h', toks := t' } := I.un (Un.laid k hp (I.hok.fresh hp)) (I.hok.laid k hp new)
theorem Inv.write {x e : Addr} {o : HO} {t' : Nat} (I : Inv X pins σ H s) (mu : Mut (H x)) (he : e = x ∨ H e = some (.own x)) (k : ∀ b u, b ≠ e → s.heap.get? b = some u → h'.get? b = some u) (heo : ∃ u, h'.get? e = some u)
    (new : ObjOk X.prog X.w (upd H x o) h' x o) : Inv X pins σ (upd H x o) { s with heap := h', toks := t' } := I.un (Un.write mu he k heo) (I.hok.write mu he k heo new)
theorem Inv.pins_of {pins' : List (Addr × Obj)} (I : Inv X pins σ H s) (h : ∀ p ∈ pins', s.heap.get? p.1 = some p.2 ∧ H p.1 = none ∧ p.1 ≠ X.env.locals ∧ p.1 ∉ X.fs ∧ ∀ v, p.2.data ≠ .cell v) : Inv X pins' σ H s :=
  ⟨I.ok, I.os, I.bare, I.base, I.loc, I.cell, I.free, I.freeC, fun p hp => (List.mem_append.mp hp).elim (fun z => I.pin p (List.mem_append_left _ z)) (h p), I.hok, I.len⟩
theorem nodup_ix {N : List Str} (hN : N.Nodup) {i j : Nat} {x : Str} (a : N[i]? = some x) (b : N[j]? = some x) : i = j := by
  obtain ⟨h1, e1⟩ := List.getElem?_eq_some_iff.mp a
  obtain ⟨h2, e2⟩ := List.getElem?_eq_some_iff.mp b
  exact (List.getElem_inj hN).mp (e1.trans e2.symm)
theorem store_ok2 {M : Model} {A : Around} {E : Value → Shared → Prop} {i : Nat} {x : Str} {v : V} {u : Value} {Q : Unit → Shared → Prop} (I : Inv X pins σ H s) (hN : X.N.Nodup) (hi : X.N[i]? = some x) (hx : Loc X.env.scope x) (r : RelV v u)
    (h : ∀ s', Inv X pins (σ.set i (some v)) H s' → (∃ a, Heap.SameBut a s.heap s'.heap ∧ (a = X.env.locals ∨ X.env.cells.lookup x = some a)) → Q () s') (hf : X.fn x = true ∨ X.env.scope.names.lookup x = some .local := by first | exact .inl rfl | exact .inr rfl | assumption) : wpAny M A (storeName X.env x u) Q E s := by
  obtain ⟨m, hn, hl⟩ := id I.loc
  have hcls : (X.env.scope.kind == .class || (X.env.scope.kind == .module && X.env.locals != X.env.globals)) = false := by rw [I.ok.kind]; rfl
  have hiσ : i < σ.length := by rw [I.len]; exact (List.getElem?_eq_some_iff.mp hi).1
  have cne := I.cne
  have tracked : ∀ {a : Addr} {h' : Heap}, (∃ o, s.heap.get? a = some o ∧ H a = none) → Heap.SameBut a s.heap h' → HOk X.prog X.w H h' := fun {a h'} ha hs b ob e => by
    obtain ⟨_, _, hfree⟩ := ha
    refine (I.hok b ob e).stay (fun c w' hc q => (hs.2 c ?_).trans q) (fun _ q => q) fun _ _ q => q
    rintro rfl
    rcases hc with rfl | hc
    · rw [hfree] at e; cases e
    · rw [hfree] at hc; cases hc
  rcases hx with hk | hk
  · refine wpAny_storeName_local hk hn (fun h' hn' hs => ?_) hcls
    obtain ⟨oL, _, _, hoL, _⟩ := id hn
    refine h _ ⟨I.ok, I.os, I.bare, ⟨fun b o e n hb hx => ?_, fun b o e n hb hx => ?_, I.base.free, fun b o e hx => ?_, I.base.tups, I.base.frzs, I.base.tbls⟩, ⟨_, hn', fun j y v' e1 e2 e3 => ?_⟩, fun y c e => ?_, I.free, I.freeC, fun p hp => ?_, tracked ⟨oL, hoL, I.free⟩ hs, by simpa using I.len⟩ ⟨_, hs, .inl rfl⟩
    · exact (hs.2 b (Nat.ne_of_lt (Nat.lt_of_lt_of_le (Heap.lt_size e) I.ok.above))).trans (I.base.keep b o e n hb hx)
    · obtain ⟨sl, e1⟩ := I.base.slot b o e n hb hx
      exact ⟨sl, (hs.2 b (Nat.ne_of_lt (Nat.lt_of_lt_of_le (Heap.lt_size e) I.ok.above))).trans e1⟩
    · obtain ⟨o', e1⟩ := I.base.there b o e hx
      exact ⟨o', (hs.2 b (Nat.ne_of_lt (Nat.lt_of_lt_of_le (Heap.lt_size e) I.ok.above))).trans e1⟩
    · by_cases hj : j = i
      · subst hj
        rw [hi] at e1; cases e1
        rw [List.getElem?_set_self hiσ] at e2
        cases e2
        exact ⟨u, r, .inl ⟨hk, by simp⟩⟩
      · rw [List.getElem?_set_ne (Ne.symm hj)] at e2
        obtain ⟨u', r', q⟩ := hl j y v' e1 e2 e3
        refine ⟨u', r', ?_⟩
        rcases q with ⟨k, e⟩ | ⟨k, c, e, z⟩
        · refine .inl ⟨k, ?_⟩
          have : y ≠ x := fun e => hj (nodup_ix hN e1 (e ▸ hi))
          simp [this, e]
        · exact .inr ⟨k, c, e, z.sameBut hs (cne y c e)⟩
    · obtain ⟨w', z⟩ := I.cell y c e
      exact ⟨w', z.sameBut hs (cne y c e)⟩
    · obtain ⟨e, n, ne, nf, d⟩ := I.pin p hp
      exact ⟨(hs.2 p.1 ne).trans e, n, ne, nf, d⟩
  · have hfn : X.fn x = true := by
      rcases hf with z | z
      · exact z
      · rw [z] at hk; cases hk
    obtain ⟨c, hc⟩ := I.ok.has x (.inl hk)
    obtain ⟨w', z⟩ := I.cell x c hc
    refine wpAny_storeName_cell I.ok.kind hk hc z (fun h' hc' hs => ?_)
    obtain ⟨oc, hoc, hocd⟩ := id z
    refine h { s with heap := h' } ⟨I.ok, I.os, I.bare, ⟨fun b o e n hb hx => ?_, fun b o e n hb hx => ?_, I.base.free, fun b o e hx => ?_, I.base.tups, I.base.frzs, I.base.tbls⟩, ⟨m, hn.sameBut hs (Ne.symm (cne x c hc)), fun j y v' e1 e2 e3 => ?_⟩, fun y c' e => ?_, I.free, I.freeC, fun p hp => ?_, tracked ⟨oc, hoc, I.freeC x c hc⟩ hs, by simpa using I.len⟩ ⟨c, hs, .inr hc⟩
    · exact (hs.2 b (Nat.ne_of_lt (Nat.lt_of_lt_of_le (Heap.lt_size e) (I.ok.cab x c hfn hc)))).trans (I.base.keep b o e n hb hx)
    · obtain ⟨sl, e1⟩ := I.base.slot b o e n hb hx
      exact ⟨sl, (hs.2 b (Nat.ne_of_lt (Nat.lt_of_lt_of_le (Heap.lt_size e) (I.ok.cab x c hfn hc)))).trans e1⟩
    · obtain ⟨o', e1⟩ := I.base.there b o e hx
      exact ⟨o', (hs.2 b (Nat.ne_of_lt (Nat.lt_of_lt_of_le (Heap.lt_size e) (I.ok.cab x c hfn hc)))).trans e1⟩
    · by_cases hj : j = i
      · subst hj
        rw [hi] at e1; cases e1
        rw [List.getElem?_set_self hiσ] at e2
        cases e2
        exact ⟨u, r, .inr ⟨.inl hk, c, hc, hc'⟩⟩
      · rw [List.getElem?_set_ne (Ne.symm hj)] at e2
        obtain ⟨u', r', q⟩ := hl j y v' e1 e2 e3
        refine ⟨u', r', ?_⟩
        rcases q with q | ⟨k, c', e, z'⟩
        · exact .inl q
        · refine .inr ⟨k, c', e, z'.sameBut hs ?_⟩
          rintro rfl
          exact hj (nodup_ix hN e1 (I.ok.inj _ _ _ e hc ▸ hi))
    · by_cases hcc : c' = c
      · subst hcc; exact ⟨_, hc'⟩
      · obtain ⟨w2, z2⟩ := I.cell y c' e
        exact ⟨w2, z2.sameBut hs hcc⟩
    · obtain ⟨e, n, ne, nf, d⟩ := I.pin p hp
      refine ⟨(hs.2 p.1 ?_).trans e, n, ne, nf, d⟩
      intro q
      rw [q, hoc] at e
      have q' : oc = p.2 := Option.some.inj e
      exact d w' (by rw [← q']; exact hocd)
theorem store_ok {M : Model} {A : Around} {E : Value → Shared → Prop} {i : Nat} {x : Str} {v : V} {u : Value} {Q : Unit → Shared → Prop} (I : Inv X pins σ H s) (hN : X.N.Nodup) (hi : X.N[i]? = some x) (hx : Loc X.env.scope x) (r : RelV v u)
    (h : ∀ s', Inv X pins (σ.set i (some v)) H s' → Q () s') (hf : X.fn x = true ∨ X.env.scope.names.lookup x = some .local := by first | exact .inl rfl | exact .inr rfl | assumption) : wpAny M A (storeName X.env x u) Q E s :=
  store_ok2 I hN hi hx r (fun s' I' _ => h s' I') hf
theorem Inv.call' {s' : Shared} {ch : List Addr} (I : Inv X pins σ H s) (ho : s'.os = s.os) (u : Un (frs X.stack) ch H H' s.heap s'.heap) (hok : HOk X.prog X.w H' s'.heap) (hg : AllBare s'.gens)
    (hch : ∀ b ∈ ch, (b ∈ X.ex ∨ X.s₀.heap.objs.size ≤ b) ∧ b ≠ X.env.locals ∧ (∀ x c, X.env.cells.lookup x = some c → c ≠ b) ∧ ∀ p ∈ X.pn ++ pins, p.1 ≠ b) : Inv X pins σ H' s' := by
  obtain ⟨h', g', d', t', o'⟩ := s'
  have e : o' = s.os := ho
  subst e
  exact I.call (g' := g') (t' := t') (d' := d') u hok hg hch
end
noncomputable abbrev XK := Value → Option Addr → Hp → Prop
noncomputable abbrev St := List (Option V)
noncomputable abbrev VK := V → Hp → Prop
noncomputable abbrev TE := St → Hp → VK → Prop
noncomputable abbrev TT := St → Hp → (Bool → Hp → Prop) → Prop
noncomputable abbrev TA := St → Hp → (List V → Hp → Prop) → Prop
structure Ends where
  nx : St → Hp → Prop
  rt : VK
  bk : St → Hp → Prop := fun _ _ => False
  ct : St → Hp → Prop := fun _ _ => False
noncomputable abbrev TS := Ends → St → Hp → Prop
noncomputable def EP (X : Cx) (pins : List (Addr × Obj)) (σ : St) (Q : VK) (u : Value) (s' : Shared) : Prop := ∃ v H', Inv X pins σ H' s' ∧ RelV v u ∧ Q v H'
noncomputable def TP (X : Cx) (pins : List (Addr × Obj)) (σ : St) (Q : Bool → Hp → Prop) (b : Bool) (s' : Shared) : Prop := ∃ H', Inv X pins σ H' s' ∧ Q b H'
noncomputable def AP (X : Cx) (pins : List (Addr × Obj)) (σ : St) (Q : List V → Hp → Prop) (us : List Value) (s' : Shared) : Prop := ∃ vs H', Inv X pins σ H' s' ∧ Vals vs us ∧ Q vs H'
noncomputable def SP (X : Cx) (pins : List (Addr × Obj)) (D : Ends) (f : Flow) (s' : Shared) : Prop :=
  match f with
  | .next => ∃ σ' H', Inv X pins σ' H' s' ∧ D.nx σ' H'
  | .brk => ∃ σ' H', Inv X pins σ' H' s' ∧ D.bk σ' H'
  | .cont => ∃ σ' H', Inv X pins σ' H' s' ∧ D.ct σ' H'
  | .ret u => ∃ v σ' H', Inv X pins σ' H' s' ∧ RelV v u ∧ D.rt v H'
noncomputable def PE (X : Cx) (e : Expr) (t : TE) : Prop :=
  ∀ (pins : List (Addr × Obj)) (s : Shared) (σ : St) (H : Hp) (Q : VK), Inv X pins σ H s → t σ H Q → wpAny (model X.prog X.w) X.A (eval e X.env) (EP X pins σ Q) X.xe s
noncomputable def PT (X : Cx) (e : Expr) (t : TT) : Prop :=
  ∀ (pins : List (Addr × Obj)) (s : Shared) (σ : St) (H : Hp) (Q : Bool → Hp → Prop), Inv X pins σ H s → t σ H Q → wpAny (model X.prog X.w) X.A (isTrue e X.env (eval e X.env)) (TP X pins σ Q) X.xe s
noncomputable def PW (X : Cx) (e : Expr) (t : TT) : Prop :=
  ∀ (whole : Sem Value) (pins : List (Addr × Obj)) (s : Shared) (σ : St) (H : Hp) (Q : Bool → Hp → Prop), Inv X pins σ H s → t σ H Q → wpAny (model X.prog X.w) X.A (isTrue e X.env whole) (TP X pins σ Q) X.xe s
theorem PW.pt {X : Cx} {e : Expr} {t : TT} (h : PW X e t) : PT X e t := h _
noncomputable def PA (X : Cx) (es : List Expr) (t : TA) : Prop :=
  ∀ (pos : Pos) (pins : List (Addr × Obj)) (s : Shared) (σ : St) (H : Hp) (Q : List V → Hp → Prop), Inv X pins σ H s → t σ H Q → wpAny (model X.prog X.w) X.A (spliced (backTo pos (starEach es X.env))) (AP X pins σ Q) X.xe s
noncomputable def PS (X : Cx) (st : Stmt) (t : TS) : Prop :=
  ∀ (pins : List (Addr × Obj)) (s : Shared) (σ : St) (H : Hp) (D : Ends), Inv X pins σ H s → t D σ H → wpAny (model X.prog X.w) X.A (exec st X.env) (SP X pins D) X.xe s
noncomputable def PSs (X : Cx) (st : List Stmt) (t : TS) : Prop :=
  ∀ (pins : List (Addr × Obj)) (s : Shared) (σ : St) (H : Hp) (D : Ends), Inv X pins σ H s → t D σ H → wpAny (model X.prog X.w) X.A (execs st X.env) (SP X pins D) X.xe s
theorem thn {α : Type} {t : Sem α} {Q Q' : α → Shared → Prop} {M : Model} {A : Around} {E : Value → Shared → Prop} {s : Shared} (h : wpAny M A t Q E s) (hQ : ∀ a s, Q a s → Q' a s) : wpAny M A t Q' E s := wpAny_mono h hQ fun _ _ x => x
end L2
namespace L2
open PySem PySem.Spec PyProof.Rows
section
variable {X : Cx}
noncomputable def tVar (i : Nat) : TE := fun σ H Q => ∃ v, σ[i]? = some (some v) ∧ Q v H
noncomputable def tC (v : V) : TE := fun _ H Q => Q v H
theorem pe_var {i : Nat} {x : Str} {pos : Pos} (hN : X.N[i]? = some x) (hv : Vis X.env.scope x) (hd : (x == ("__debug__" : Str)) = false := by decide) (hcd : (x == ("__classdict__" : Str)) = false := by decide) : PE X (.Name x pos) (tVar i) := by
  intro pins s σ H Q I h
  obtain ⟨v, e, h⟩ := h
  obtain ⟨m, hn, hl⟩ := I.loc
  obtain ⟨u, r, l⟩ := hl i x v hN e hv
  have fin : EP X pins σ Q u s := ⟨v, H, I, r, h⟩
  rcases l with ⟨hk, hm⟩ | ⟨hk, c, hc, hcell⟩
  · exact wpAny_Name (wpAny_loadName_local I.ok.kind hk hn hm fin) hd
  · rcases hk with hk | hk
    · exact wpAny_Name (wpAny_loadName_cell I.ok.kind hk hc hcell fin) hd
    · exact wpAny_Name (wpAny_loadName_free I.ok.kind hk hc hcell fin hcd) hd
theorem pe_int {i j pos} : PE X (.Constant (.int i) j pos) (tC (.int i)) := fun _ _ _ H _ I h => wpAny_Constant_int ⟨.int i, H, I.tok _, ⟨_, rfl⟩, h⟩
theorem pe_bl {b j pos} : PE X (.Constant (.bool b) j pos) (tC (.bl b)) := fun _ _ _ H _ I h => Constant_bool ⟨.bl b, H, I, rfl, h⟩
theorem pe_non {j pos} : PE X (.Constant .none j pos) (tC .non) := fun _ _ _ H _ I h => Constant_none ⟨.non, H, I, rfl, h⟩
theorem pe_str {x j pos} : PE X (.Constant (.str x) j pos) (tC (.str x)) := fun _ _ _ H _ I h => Calls.Constant_str ⟨.str x, H, I.tok _, ⟨_, rfl⟩, h⟩
noncomputable def Gl (X : Cx) (x : Str) : Prop := X.env.kindOf x = some .globalImplicit
theorem ld_glob {E : Value → Shared → Prop} {pins : List (Addr × Obj)} {s : Shared} {σ : St} {H : Hp} {x : Str} {u : Value} {pos : Pos} {Q : Value → Shared → Prop} (I : Inv X pins σ H s) (hg : Gl X x) (hm : X.mg x = some u) (h : Q u s)
    (hd : (x == ("__debug__" : Str)) = false := by decide) : wpAny (model X.prog X.w) X.A (eval (.Name x pos) X.env) Q E s :=
  Calls.Name_function_global I.ok.kind hg (Calls.loadGlobal_global (by rw [I.ok.glob]; exact I.mod.glob.keeps I.bk) hm h) hd
theorem ld_blt {E : Value → Shared → Prop} {pins : List (Addr × Obj)} {s : Shared} {σ : St} {H : Hp} {x : Str} {u : Value} {pos : Pos} {Q : Value → Shared → Prop} (I : Inv X pins σ H s) (hg : Gl X x) (hm : X.mg x = none) (hv : bootBuiltins x = some u) (h : Q u s)
    (hn : x ≠ "__name__" := by decide) (hd : (x == ("__debug__" : Str)) = false := by decide) : wpAny (model X.prog X.w) X.A (eval (.Name x pos) X.env) Q E s := by
  obtain ⟨mb, h1, h2⟩ := I.mod.blt
  exact Calls.Name_function_global I.ok.kind hg (Calls.loadGlobal_builtin (by rw [I.ok.glob]; exact I.mod.glob.keeps I.bk) hm (by rw [I.ok.blt]; exact h1.keeps I.bk) ((h2 x hn).trans hv) h) hd
theorem pe_glob {x : Str} {v : V} {u : Value} {pos : Pos} (hg : Gl X x) (hm : X.mg x = some u) (r : RelV v u) (hd : (x == ("__debug__" : Str)) = false := by decide) : PE X (.Name x pos) (tC v) :=
  fun _ _ _ H _ I h => ld_glob I hg hm ⟨v, H, I, r, h⟩ hd
theorem pe_bltn {x : Str} {v : V} {u : Value} {pos : Pos} (hg : Gl X x) (hm : X.mg x = none) (hv : bootBuiltins x = some u) (r : RelV v u) (hn : x ≠ "__name__" := by decide) (hd : (x == ("__debug__" : Str)) = false := by decide) : PE X (.Name x pos) (tC v) :=
  fun _ _ _ H _ I h => ld_blt I hg hm hv ⟨v, H, I, r, h⟩ hn hd
variable {a b : Expr} {ta tb : TE} {pos : Pos}
noncomputable def tB (t : TE) : TT := fun σ H Q => t σ H fun x H1 => ∃ c, x = .bl c ∧ Q c H1
theorem pt_val {e : Expr} {t : TE} (h : PE X e t) (he : ∀ whole, isTrue e X.env whole = (do let v ← whole; standAt e.pos; holding [v] (truthy v)) := by intro _; rfl) : PT X e (tB t) := by
  intro pins s σ H Q I hw
  refine isTrue_plain (thn (h pins s σ H _ I hw) fun v s1 ⟨x, H1, I1, r1, q1⟩ => ?_) (he _)
  obtain ⟨d, rfl, q⟩ := q1
  cases r1
  exact wpAny_truthy_bool ⟨H1, I1, q⟩
variable {tA tB' : TT} {rest : List Expr}
noncomputable def tAnd (t u : TT) : TT := fun σ H Q => t σ H fun c H1 => if c = true then u σ H1 Q else Q false H1
noncomputable def tOr (t u : TT) : TT := fun σ H Q => t σ H fun c H1 => if c = true then Q true H1 else u σ H1 Q
noncomputable def tNot (t : TT) : TT := fun σ H Q => t σ H fun c H1 => Q (!c) H1
theorem pw_and1 (ha : PT X a tA) : PW X (.BoolOp .And [a] pos) tA := by
  intro wh pins s σ H Q I h
  refine isTrue_and (thn (ha pins s σ H Q I h) fun c s1 e => ?_)
  cases c with
  | true => exact isTrue_and_nil e
  | false => exact e
theorem pw_or1 (ha : PT X a tA) : PW X (.BoolOp .Or [a] pos) tA := by
  intro wh pins s σ H Q I h
  refine isTrue_or (thn (ha pins s σ H Q I h) fun c s1 e => ?_)
  cases c with
  | false => exact isTrue_or_nil e
  | true => exact e
theorem pw_and (ha : PT X a tA) (hb : PW X (.BoolOp .And (b :: rest) pos) tB') : PW X (.BoolOp .And (a :: b :: rest) pos) (tAnd tA tB') := by
  intro wh pins s σ H Q I h
  refine isTrue_and (thn (ha pins s σ H _ I h) fun c s1 ⟨H1, I1, q1⟩ => ?_)
  cases c with
  | true => exact hb wh pins s1 σ H1 Q I1 q1
  | false => exact ⟨H1, I1, q1⟩
theorem pw_or (ha : PT X a tA) (hb : PW X (.BoolOp .Or (b :: rest) pos) tB') : PW X (.BoolOp .Or (a :: b :: rest) pos) (tOr tA tB') := by
  intro wh pins s σ H Q I h
  refine isTrue_or (thn (ha pins s σ H _ I h) fun c s1 ⟨H1, I1, q1⟩ => ?_)
  cases c with
  | true => exact ⟨H1, I1, q1⟩
  | false => exact hb wh pins s1 σ H1 Q I1 q1
theorem pt_not (ha : PT X a tA) : PT X (.UnaryOp .Not a pos) (tNot tA) := by
  intro pins s σ H Q I h
  exact isTrue_not (ha pins s σ H (fun c H1 => Q (!c) H1) I h)
noncomputable def tAndV (ta tb : TE) : TE := fun σ H Q => ta σ H fun x H1 => ∃ c, x = .bl c ∧ if c = true then tb σ H1 Q else Q (.bl false) H1
noncomputable def tOrV (ta tb : TE) : TE := fun σ H Q => ta σ H fun x H1 => ∃ c, x = .bl c ∧ if c = true then Q (.bl true) H1 else tb σ H1 Q
noncomputable def tNotV (ta : TE) : TE := fun σ H Q => ta σ H fun x H1 => ∃ c, x = .bl c ∧ Q (.bl (!c)) H1
theorem pe_one {op} {t : TE} (h : PE X a t) : PE X (.BoolOp op [a] pos) t := fun pins s σ H Q I hw => BoolOp_one (h pins s σ H Q I hw)
theorem pe_and (ha : PE X a ta) (hb : PE X (.BoolOp .And (b :: rest) pos) tb) : PE X (.BoolOp .And (a :: b :: rest) pos) (tAndV ta tb) := by
  intro pins s σ H Q I h
  refine BoolOp_and (thn (ha pins s σ H _ I h) fun v s1 ⟨x, H1, I1, r1, q1⟩ => ?_)
  obtain ⟨c, rfl, q1⟩ := q1
  cases r1
  refine wpAny_truthy_bool ?_
  cases c with
  | true => exact hb pins s1 σ H1 Q I1 q1
  | false => exact ⟨.bl false, H1, I1, rfl, q1⟩
theorem pe_or (ha : PE X a ta) (hb : PE X (.BoolOp .Or (b :: rest) pos) tb) : PE X (.BoolOp .Or (a :: b :: rest) pos) (tOrV ta tb) := by
  intro pins s σ H Q I h
  refine BoolOp_or (thn (ha pins s σ H _ I h) fun v s1 ⟨x, H1, I1, r1, q1⟩ => ?_)
  obtain ⟨c, rfl, q1⟩ := q1
  cases r1
  refine wpAny_truthy_bool ?_
  cases c with
  | false => exact hb pins s1 σ H1 Q I1 q1
  | true => exact ⟨.bl true, H1, I1, rfl, q1⟩
theorem pe_not (ha : PE X a ta) : PE X (.UnaryOp .Not a pos) (tNotV ta) := by
  intro pins s σ H Q I h
  refine UnaryOp_ (thn (ha pins s σ H _ I h) fun v s1 ⟨x, H1, I1, r1, q1⟩ => ?_)
  obtain ⟨c, rfl, q1⟩ := q1
  cases r1
  exact not_of (wpAny_truthy_bool ⟨.bl (!c), H1, I1, rfl, q1⟩)
noncomputable def tIf (t : TT) (ta tb : TE) : TE := fun σ H Q => t σ H fun c H1 => if c = true then ta σ H1 Q else tb σ H1 Q
theorem pe_ifExp {c : Expr} (hc : PT X c tA) (ha : PE X a ta) (hb : PE X b tb) : PE X (.IfExp c a b pos) (tIf tA ta tb) := by
  intro pins s σ H Q I h
  refine wpAny_IfExp (thn (hc pins s σ H _ I h) fun d s1 ⟨H1, I1, q1⟩ => ?_)
  cases d with
  | true => exact ha pins s1 σ H1 Q I1 q1
  | false => exact hb pins s1 σ H1 Q I1 q1
end
end L2
namespace L2
open PySem PySem.Spec PyProof.Rows
noncomputable def SqL (K : PySem.W.Frag) (H : Hp) (a : Addr) (xs : List V) : Prop :=
  Rd H a (.lst xs) ∨
    ∃ (o : Obj) (its : Array Value) (n : Nat), K.lookup a = some o ∧ o.cls = .type "list" ∧ o.dict = none ∧ o.data = .seq its n ∧ its.size ≤ sizeLine ∧ Vals xs its.toList
noncomputable def SqT (K : PySem.W.Frag) (H : Hp) (a : Addr) (xs : List V) : Prop :=
  Rd H a (.tup xs) ∨
    ∃ (o : Obj) (its : Array Value) (n : Nat), K.lookup a = some o ∧ o.cls = .type "tuple" ∧ o.data = .seq its n ∧ its.size ≤ sizeLine ∧ Vals xs its.toList
noncomputable def absV : Value → Option V
  | .none => some .non
  | .bool b => some (.bl b)
  | .int i _ => some (.int i)
  | .str x _ => some (.str x)
  | .bytes b _ => some (.byt b)
  | .float b _ => some (.flt b)
  | .ref a => some (.ref a)
  | .type n => some (.ty n)
  | _ => none
theorem RelV.abs {x : V} {u : Value} (r : RelV x u) : absV u = some x := by
  cases x with
  | non => cases r; rfl
  | bl _ => cases r; rfl
  | int _ => obtain ⟨t, rfl⟩ := r; rfl
  | str _ => obtain ⟨t, rfl⟩ := r; rfl
  | byt _ => obtain ⟨t, rfl⟩ := r; rfl
  | flt _ => obtain ⟨t, rfl⟩ := r; rfl
  | ref _ => cases r; rfl
  | ty _ => cases r; rfl
theorem RelV.inj {x y : V} {u : Value} (r : RelV x u) (q : RelV y u) : x = y := Option.some.inj (r.abs.symm.trans q.abs)
theorem Vals.inj : ∀ {xs ys : List V} {us : List Value}, Vals xs us → Vals ys us → xs = ys
  | _, _, _, .nil, .nil => rfl
  | _, _, _, .cons r t, .cons r' t' => by rw [r.inj r', Vals.inj t t']
section
variable {X : Cx} {pins : List (Addr × Obj)} {σ : St} {H : Hp} {s : Shared} {a : Addr} {xs ys : List V}
theorem SqL.of {K : PySem.W.Frag} (h : H a = some (.lst xs)) : SqL K H a xs := .inl (.inl h)
theorem SqT.of {K : PySem.W.Frag} (h : H a = some (.tup xs)) : SqT K H a xs := .inl (.inl h)
theorem Inv.list (I : Inv X pins σ H s) (h : SqL X.K H a xs) : ∃ its : List Value, Vals xs its ∧ PlainL s.heap a its.toArray ∧ xs.length ≤ sizeLine := by
  rcases h with h | ⟨o, its, n, hk, hc, hd, hs, hz, r⟩
  · obtain ⟨z, its, n, r, e⟩ := h.ok I.hok
    exact ⟨its, r, ⟨_, n, e, rfl, rfl, rfl⟩, z⟩
  · refine ⟨its.toList, r, ⟨o, n, I.kIn a o hk, hc, hd, by simpa using hs⟩, ?_⟩
    have e := r.length
    simp only [Array.length_toList] at e
    omega
theorem Inv.tuple (I : Inv X pins σ H s) (h : SqT X.K H a xs) : ∃ its : List Value, Vals xs its ∧ IsTup s.heap a its.toArray ∧ xs.length ≤ sizeLine := by
  rcases h with h | ⟨o, its, n, hk, hc, hs, hz, r⟩
  · obtain ⟨z, its, r, p⟩ := h.ok I.hok
    exact ⟨its, r, p, z⟩
  · refine ⟨its.toList, r, ⟨o, I.kIn a o hk, hc, n, by simpa using hs⟩, ?_⟩
    have e := r.length
    simp only [Array.length_toList] at e
    omega
theorem Inv.list_inj (I : Inv X pins σ H s) (h : SqL X.K H a xs) (h' : SqL X.K H a ys) : xs = ys := by
  obtain ⟨its, r, ⟨o, n, e, _, _, d⟩, _⟩ := I.list h
  obtain ⟨its', r', ⟨o', n', e', _, _, d'⟩, _⟩ := I.list h'
  rw [e] at e'; cases e'
  rw [d] at d'
  injection d' with d1 _
  have : its = its' := by simpa using congrArg Array.toList d1
  subst this
  exact r.inj r'
theorem Inv.tuple_inj (I : Inv X pins σ H s) (h : SqT X.K H a xs) (h' : SqT X.K H a ys) : xs = ys := by
  obtain ⟨its, r, ⟨o, e, _, n, d⟩, _⟩ := I.tuple h
  obtain ⟨its', r', ⟨o', e', _, n', d'⟩, _⟩ := I.tuple h'
  rw [e] at e'; cases e'
  rw [d] at d'
  injection d' with d1 _
  have : its = its' := by simpa using congrArg Array.toList d1
  subst this
  exact r.inj r'
end
noncomputable abbrev Cx.wish (X : Cx) (E : Value → Shared → Prop) : Cx := { X with xe := E }
noncomputable abbrev Cx.nox (X : Cx) : Cx := X.wish fun _ _ => False
theorem Cx.Ok.wish {X : Cx} (ok : X.Ok) (E : Value → Shared → Prop) : (X.wish E).Ok :=
  ⟨ok.mod, ok.kind, ok.glob, ok.blt, ok.above, ok.inj, ok.has, ok.cab, ok.hd, ok.frames, ok.stk, ok.exf, ok.bs, ok.bsz, ok.noex, ok.exfs, ok.funs, ok.frf⟩
theorem Cx.Ok.unwish {X : Cx} {E : Value → Shared → Prop} (ok : (X.wish E).Ok) : X.Ok :=
  ⟨ok.mod, ok.kind, ok.glob, ok.blt, ok.above, ok.inj, ok.has, ok.cab, ok.hd, ok.frames, ok.stk, ok.exf, ok.bs, ok.bsz, ok.noex, ok.exfs, ok.funs, ok.frf⟩
section
variable {X : Cx} {pins : List (Addr × Obj)} {σ : St} {H : Hp} {s : Shared} {E : Value → Shared → Prop}
theorem Inv.wish (I : Inv X pins σ H s) (E : Value → Shared → Prop) : Inv (X.wish E) pins σ H s := ⟨I.ok.wish E, I.os, I.bare, I.base, I.loc, I.cell, I.free, I.freeC, I.pin, I.hok, I.len⟩
theorem Inv.unwish (I : Inv (X.wish E) pins σ H s) : Inv X pins σ H s := ⟨I.ok.unwish, I.os, I.bare, I.base, I.loc, I.cell, I.free, I.freeC, I.pin, I.hok, I.len⟩
theorem SP.unwish {D : Ends} {f : Flow} {s' : Shared} (h : SP (X.wish E) pins D f s') : SP X pins D f s' := by
  cases f with
  | next => obtain ⟨σ', H', I, q⟩ := h; exact ⟨σ', H', I.unwish, q⟩
  | brk => obtain ⟨σ', H', I, q⟩ := h; exact ⟨σ', H', I.unwish, q⟩
  | cont => obtain ⟨σ', H', I, q⟩ := h; exact ⟨σ', H', I.unwish, q⟩
  | ret u => obtain ⟨v, σ', H', I, r, q⟩ := h; exact ⟨v, σ', H', I.unwish, r, q⟩
theorem PE.nox {e : Expr} {t : TE} (h : PE X.nox e t) : PE X e t := fun pins s σ H Q I hw =>
  wpAny_mono (h pins s σ H Q (I.wish _) hw) (fun _ _ ⟨v, H', I', r, q⟩ => ⟨v, H', I'.unwish, r, q⟩) fun _ _ z => False.elim z
theorem PT.nox {e : Expr} {t : TT} (h : PT X.nox e t) : PT X e t := fun pins s σ H Q I hw =>
  wpAny_mono (h pins s σ H Q (I.wish _) hw) (fun _ _ ⟨H', I', q⟩ => ⟨H', I'.unwish, q⟩) fun _ _ z => False.elim z
theorem PSs.nox {st : List Stmt} {t : TS} (h : PSs X.nox st t) : PSs X st t := fun pins s σ H D I hw =>
  wpAny_mono (h pins s σ H D (I.wish _) hw) (fun _ _ q => q.unwish) fun _ _ z => False.elim z
end
section
variable {X : Cx} {st : Stmt} {rest : List Stmt} {t u : TS} {e : Expr} {te : TE} {pos : Pos}
noncomputable def tNext : TS := fun D σ H => D.nx σ H
noncomputable def tSeq (t u : TS) : TS := fun D σ H => t { D with nx := u D } σ H
theorem pss_nil : PSs X [] tNext := fun _ _ σ H _ I h => wpAny_execs_nil ⟨σ, H, I, h⟩
theorem pss_cons (h1 : PS X st t) (h2 : PSs X rest u) : PSs X (st :: rest) (tSeq t u) := by
  intro pins s σ H D I h
  refine wpAny_execs_cons (thn (h1 pins s σ H { D with nx := u D } I h) fun f s1 q => ?_)
  cases f with
  | next =>
    obtain ⟨σ', H', I', q⟩ := q
    exact h2 pins s1 σ' H' D I' q
  | ret v => exact q
  | brk => exact q
  | cont => exact q
theorem pss_one (h1 : PS X st t) : PSs X [st] t := by
  intro pins s σ H D I h
  refine wpAny_execs_cons (thn (h1 pins s σ H D I h) fun f s1 q => ?_)
  cases f with
  | next => exact wpAny_execs_nil q
  | ret v => exact q
  | brk => exact q
  | cont => exact q
theorem Inv.quiet {pins : List (Addr × Obj)} {σ : St} {H : Hp} {s : Shared} (I : Inv X pins σ H s) : interactive X.env = false := by simp [interactive, I.ok.kind]
noncomputable def tDrop (te : TE) : TS := fun D σ H => te σ H fun _ H1 => D.nx σ H1
theorem ps_expr (he : PE X e te) (hs : swapsWith e none pos.line X.env = pure false := by rfl) : PS X (.Expr e pos) (tDrop te) := by
  intro pins s σ H D I h
  exact wpAny_Expr_any (thn (he pins s σ H _ I h) fun v s1 ⟨x, H1, I1, r1, q1⟩ => ⟨σ, H1, I1, q1⟩) I.quiet hs
noncomputable def tRet (te : TE) : TS := fun D σ H => te σ H D.rt
theorem ps_ret (he : PE X e te) : PS X (.Return (some e) pos) (tRet te) := by
  intro pins s σ H D I h
  exact wpAny_Return_some (thn (he pins s σ H _ I h) fun v s1 ⟨x, H1, I1, r1, q1⟩ => ⟨x, σ, H1, I1, r1, q1⟩)
noncomputable def tIfS (c : TT) (t u : TS) : TS := fun D σ H => c σ H fun b H1 => if b = true then t D σ H1 else u D σ H1
theorem ps_if {c : Expr} {a b : List Stmt} {tc : TT} (hc : PT X c tc) (ha : PSs X a t) (hb : PSs X b u) : PS X (.If c a b pos) (tIfS tc t u) := by
  intro pins s σ H D I h
  refine wpAny_If (thn (hc pins s σ H _ I h) fun d s1 ⟨H1, I1, q1⟩ => ?_)
  cases d with
  | true => exact ha pins s1 σ H1 D I1 q1
  | false => exact hb pins s1 σ H1 D I1 q1
end
noncomputable abbrev TG := V → St → Hp → (St → Hp → Prop) → Prop
noncomputable abbrev TGs := List V → St → Hp → (St → Hp → Prop) → Prop
noncomputable def PG (X : Cx) (target : Expr) (t : TG) : Prop :=
  ∀ (pins : List (Addr × Obj)) (s : Shared) (σ : St) (H : Hp) (v : V) (u : Value) (Q : St → Hp → Prop), Inv X pins σ H s → RelV v u → t v σ H Q →
    wpAny (model X.prog X.w) X.A (assign target X.env u) (fun _ s' => ∃ σ' H', Inv X pins σ' H' s' ∧ Q σ' H') X.xe s
noncomputable def PGs (X : Cx) (ts : List Expr) (t : TGs) : Prop :=
  ∀ (pins : List (Addr × Obj)) (s : Shared) (σ : St) (H : Hp) (vs : List V) (us : List Value) (Q : St → Hp → Prop), Inv X pins σ H s → Vals vs us → t vs σ H Q →
    wpAny (model X.prog X.w) X.A (assignInOrder ((assignEach ts X.env).map (·.2)) us) (fun _ s' => ∃ σ' H', Inv X pins σ' H' s' ∧ Q σ' H') X.xe s
noncomputable abbrev TSet := V → V → V → Hp → (Hp → Prop) → Prop
noncomputable def PSet (X : Cx) (t : TSet) : Prop :=
  ∀ (pins : List (Addr × Obj)) (s : Shared) (σ : St) (H : Hp) (o i v : V) (ov iv u : Value) (Q : Hp → Prop), Inv X pins σ H s → RelV o ov → RelV i iv → RelV v u → t o i v H Q →
    wpAny (model X.prog X.w) X.A (setItem ov iv u) (fun _ s' => ∃ H', Inv X pins σ H' s' ∧ Q H') X.xe s
section
variable {X : Cx} {pos : Pos}
noncomputable def gName (i : Nat) : TG := fun v σ H Q => Q (σ.set i (some v)) H
theorem pg_name {i : Nat} {x : Str} (hN : X.N.Nodup) (hi : X.N[i]? = some x) (hx : Loc X.env.scope x) (hf : X.fn x = true ∨ X.env.scope.names.lookup x = some .local := by first | exact .inl rfl | exact .inr rfl | assumption) : PG X (.Name x pos) (gName i) := by
  intro pins s σ H v u Q I r h
  exact wpAny_assign_Name (store_ok I hN hi hx r (fun s' I' => ⟨_, H, I', h⟩) hf)
noncomputable def gNil : TGs := fun vs σ H Q => vs = [] ∧ Q σ H
noncomputable def gCons (t : TG) (u : TGs) : TGs := fun vs σ H Q => ∃ v r, vs = v :: r ∧ t v σ H fun σ' H' => u r σ' H' Q
theorem pgs_nil : PGs X [] gNil := by
  intro pins s σ H vs us Q I r h
  obtain ⟨e, h⟩ := h
  subst e
  cases r
  exact assignInOrder_nil ⟨σ, H, I, h⟩
theorem pgs_cons {e : Expr} {es : List Expr} {t : TG} {u : TGs} (h1 : PG X e t) (h2 : PGs X es u)
    (hs : (assignEach (e :: es) X.env).map (·.2) = assign e X.env :: (assignEach es X.env).map (·.2) := by rfl) : PGs X (e :: es) (gCons t u) := by
  intro pins s σ H vs us Q I r h
  obtain ⟨v, vr, e1, h⟩ := h
  subst e1
  cases r with
  | cons r rr =>
    rw [hs]
    refine assignInOrder_cons (thn (h1 pins s σ H _ _ _ I r h) fun _ s1 ⟨σ1, H1, I1, q1⟩ => ?_)
    exact h2 pins s1 σ1 H1 _ _ Q I1 rr q1
noncomputable def gTup (K : PySem.W.Frag) (n : Nat) (t : TGs) : TG := fun v σ H Q => ∃ a xs, v = .ref a ∧ SqT K H a xs ∧ xs.length = n ∧ t xs σ H Q
theorem pg_tup {es : List Expr} {k : Nat} {t : TGs} {n : Nat} (hc : X.calm = true) (h : PGs X es t)
    (hn : (assignEach es X.env).length = n := by rfl) (hst : (assignEach es X.env).findIdx? (·.1) = none := by rfl) : PG X (.Tuple es k pos) (gTup X.K n t) := by
  intro pins s σ H v u Q I r hw
  obtain ⟨a, xs, e1, hq, hl, hw⟩ := hw
  subst e1
  cases r
  obtain ⟨its, rv, ht, hz⟩ := I.tuple hq
  refine assign_Tuple_tuple (I.ok.hd hc) ht (by simp [hn, ← hl, rv.length]) hst fun h' hx => ?_
  have I1 : Inv X pins σ H { s with heap := h' } := I.kept (t' := s.toks) fun b o e => hx b o (Nat.ne_of_lt (Heap.lt_size e)) e
  exact h pins _ σ H xs _ Q I1 (by simpa using rv) hw
noncomputable def gSub (to ti : TE) (t : TSet) : TG := fun v σ H Q => to σ H fun o H1 => ti σ H1 fun i H2 => t o i v H2 fun H3 => Q σ H3
theorem pg_sub {o i : Expr} {to ti : TE} {t : TSet} (ho : PE X o to) (hi : PE X i ti) (hs : PSet X t)
    (ha : ∀ v, assign (.Subscript o i pos) X.env v = (do
      let ov ← holding [v] (eval o X.env)
      let iv ← holding [v, ov] (eval i X.env)
      standAt pos
      holding [v, ov, iv] (setItem ov iv v)
      release [v, ov, iv] []) := by intro _; rfl) : PG X (.Subscript o i pos) (gSub to ti t) := by
  intro pins s σ H v u Q I r h
  rw [ha]
  refine wpAny_bind (wpAny_holding (thn (ho pins s σ H _ I h) fun ov s1 ⟨x, H1, I1, r1, q1⟩ => ?_))
  refine wpAny_bind (wpAny_holding (thn (hi pins s1 σ H1 _ I1 q1) fun iv s2 ⟨y, H2, I2, r2, q2⟩ => ?_))
  refine wpAny_bind (wpAny_standAt (wpAny_bind (wpAny_holding (thn (hs pins s2 σ H2 x y v ov iv u _ I2 r1 r2 r q2) fun _ s3 ⟨H3, I3, q3⟩ => ?_))))
  exact wpAny_release ⟨σ, H3, I3, q3⟩
noncomputable def tAsg (te : TE) (g : TG) : TS := fun D σ H => te σ H fun x H1 => g x σ H1 D.nx
theorem ps_asg {tg e : Expr} {te : TE} {g : TG} (he : PE X e te) (hg : PG X tg g) (hs : swapsWithSole [tg] e pos.line X.env = pure false := by rfl) (hw : swappedStores [tg] e X.env = pure none := by rfl)
    (h1 : (assignEach [tg] X.env).map (·.2) = [assign tg X.env] := by rfl) : PS X (.Assign [tg] e pos) (tAsg te g) := by
  intro pins s σ H D I h
  refine wpAny_Assign_stores (thn (he pins s σ H _ I h) fun v s1 ⟨x, H1, I1, r1, q1⟩ => ?_) hs hw
  rw [h1]
  exact thn (hg pins s1 σ H1 x v _ I1 r1 q1) fun _ s2 q => q
theorem ps_set {i : Nat} {x : Str} {e : Expr} {te : TE} {pos' : Pos} (hN : X.N.Nodup) (hi : X.N[i]? = some x) (hx : Loc X.env.scope x) (he : PE X e te) (hs : swapsWith e (some (.Name x pos')) pos.line X.env = pure false := by rfl) (hf : X.fn x = true ∨ X.env.scope.names.lookup x = some .local := by first | exact .inl rfl | exact .inr rfl | assumption) :
    PS X (.Assign [.Name x pos'] e pos) (tAsg te (gName i)) := by
  intro pins s σ H D I h
  refine wpAny_Assign_Name (thn (he pins s σ H _ I h) fun v s1 ⟨y, H1, I1, r1, q1⟩ => ?_) hs
  exact store_ok I1 hN hi hx r1 (fun s2 I2 => ⟨_, H1, I2, q1⟩) hf
end
section
variable {X : Cx} {pos : Pos}
noncomputable def tWhile (c : TT) (tb : TS) : TS := fun D σ H => ∃ W : Nat → St → Hp → Prop, (∃ m, W m σ H) ∧ ∀ m σ H, W m σ H →
  c σ H fun b H1 => if b = true then ∃ N : St → Hp → Prop, (∀ σ' H', N σ' H' → ∃ m', m' < m ∧ W m' σ' H') ∧ tb { D with nx := N, ct := N, bk := D.nx } σ H1 else D.nx σ H1
theorem ps_while {c : Expr} {body : List Stmt} {tc : TT} {tb : TS} (hp : PassesOwn (model X.prog X.w) X.A X.env X.xe) (hc : PT X c tc) (hb : PSs X body tb) : PS X (.While c body [] pos) (tWhile tc tb) := by
  intro pins s σ H D I h
  obtain ⟨W, ⟨m0, w0⟩, turn⟩ := h
  refine wpAny_While (codeAny_whileLoop (fun n s' => ∃ σ' H', Inv X pins σ' H' s' ∧ W n σ' H') ?_ m0 ⟨σ, H, I, w0⟩)
  rintro n s1 ⟨σ1, H1, I1, w1⟩
  refine wpAny_passesOwn hp (thn (hc pins s1 σ1 H1 _ I1 (turn n σ1 H1 w1)) fun b s2 ⟨H2, I2, q2⟩ => ?_)
  cases b with
  | true =>
    obtain ⟨N, hN, q2⟩ := q2
    rw [if_pos rfl]
    refine wpAny_passesOwn hp (thn (hb pins s2 σ1 H2 _ I2 q2) fun f s3 q3 => ?_)
    cases f with
    | next =>
      obtain ⟨σ3, H3, I3, n3⟩ := q3
      obtain ⟨m', hm, w3⟩ := hN σ3 H3 n3
      exact ⟨m', hm, σ3, H3, I3, w3⟩
    | cont =>
      obtain ⟨σ3, H3, I3, n3⟩ := q3
      obtain ⟨m', hm, w3⟩ := hN σ3 H3 n3
      exact ⟨m', hm, σ3, H3, I3, w3⟩
    | brk => exact q3
    | ret v => exact q3
  | false =>
    rw [if_neg Bool.false_ne_true]
    exact wpAny_execs_nil ⟨σ1, H2, I2, q2⟩
end
structure It where
  go : Nat → Hp → Prop
  yld : Nat → Hp → V → Hp → Prop
  stop : Nat → Hp → Prop
noncomputable def FpOk (X : Cx) (pins : List (Addr × Obj)) (H : Hp) (b : Addr) : Prop :=
  H b = none ∧ b ≠ X.env.locals ∧ b ∉ X.fs ∧ (b ∈ X.ex ∨ X.s₀.heap.objs.size ≤ b) ∧ (∀ x c, X.env.cells.lookup x = some c → c ≠ b) ∧ ∀ p ∈ X.pn ++ pins, p.1 ≠ b
theorem Inv.fpOk {X : Cx} {pins : List (Addr × Obj)} {σ : St} {H H' : Hp} {s : Shared} {b : Addr} (I : Inv X pins σ H s) (hb : s.heap.objs.size ≤ b) (hn : H' b = none) : FpOk X pins H' b := by
  refine ⟨hn, Nat.ne_of_gt (Nat.lt_of_lt_of_le I.lt hb), I.nofs hb, .inr (Nat.le_trans I.sz hb), fun x c e z => ?_, fun p hp z => ?_⟩
  · obtain ⟨v, q⟩ := I.cell x c e
    exact absurd (Nat.lt_of_lt_of_le q.lt (by rw [z]; exact hb)) (Nat.lt_irrefl _)
  · exact absurd (Nat.lt_of_lt_of_le (Heap.lt_size (I.pin p hp).1) (by rw [z]; exact hb)) (Nat.lt_irrefl _)
structure Turn (P : Program) (w : World) (K : PySem.W.Frag) (tg : Expr) (J : It) (fp : List Addr) (it : Addr) (tn : Nat → Heap → Prop) : Prop where
  mem : it ∈ fp
  obj : ∀ i h, tn i h → ∀ b ∈ fp, ∃ o, h.get? b = some o ∧ ∀ v, o.data ≠ .cell v
  keep : ∀ i h h', tn i h → (∀ b ∈ fp, ∀ o, h.get? b = some o → h'.get? b = some o) → tn i h'
  item : ∀ (X : Cx), X.prog = P → X.w = w → X.K = K → X.calm = true → ∀ (i : Nat) (pins : List (Addr × Obj)) (s : Shared) (σ : St) (H : Hp) (E : Value → Shared → Prop), Inv X pins σ H s → (∀ b ∈ fp, FpOk X pins H b) → tn i s.heap → J.go i H →
    wpAny (model P w) X.A (pyNext (.ref it)) (fun r s1 => ∃ u, r = some u ∧
      wpAny (model P w) X.A (letOwnedTupleGo tg (.ref it) u) (fun _ s2 => ∃ x H', Inv X pins σ H' s2 ∧ RelV x u ∧ J.yld i H x H' ∧ tn (i + 1) s2.heap ∧ ∀ b ∈ fp, H' b = none) E s1) E s
  done : ∀ (X : Cx), X.prog = P → X.w = w → X.K = K → X.calm = true → ∀ (i : Nat) (pins : List (Addr × Obj)) (s : Shared) (σ : St) (H : Hp) (E : Value → Shared → Prop), Inv X pins σ H s → (∀ b ∈ fp, FpOk X pins H b) → tn i s.heap → J.stop i H →
    wpAny (model P w) X.A (pyNext (.ref it)) (fun r s1 => r = none ∧ Inv X pins σ H s1) E s
  self : ∀ (A : Around) (i : Nat) (s : Shared) (Q : Value → Shared → Prop) (E : Value → Shared → Prop), tn i s.heap → Q (.ref it) s → wpAny (model P w) A (pyIter (.ref it)) Q E s
noncomputable abbrev TI := St → Hp → (It → Hp → Prop) → Prop
noncomputable def PIE (X : Cx) (pins : List (Addr × Obj)) (σ : St) (tg : Expr) (R : It → Hp → Prop) (itv : Value) (s2 : Shared) : Prop :=
  ∃ (it : Addr) (fp : List Addr) (tn : Nat → Heap → Prop) (J : It) (H' : Hp), itv = .ref it ∧ Inv X pins σ H' s2 ∧ Turn X.prog X.w X.K tg J fp it tn ∧ tn 0 s2.heap ∧ (∀ b ∈ fp, FpOk X pins H' b) ∧ R J H'
noncomputable def PI (X : Cx) (tg iter : Expr) (wi : TI) : Prop :=
  ∀ (pins : List (Addr × Obj)) (s : Shared) (σ : St) (H : Hp) (R : It → Hp → Prop), Inv X pins σ H s → wi σ H R →
    wpAny (model X.prog X.w) X.A (eval iter X.env) (fun v s1 => wpAny (model X.prog X.w) X.A (pyIter v) (PIE X pins σ tg R) X.xe s1) X.xe s
theorem go_of {M : Model} {A : Around} {E : Value → Shared → Prop} {s : Shared} {tg : Expr} {it : Addr} {u : Value} {o : Obj} {n : String} {vs : Array Value} {Q : Unit → Shared → Prop} (ho : s.heap.get? it = some o) (hc : o.cls = .type n) (hd : o.data = .fields vs)
    (hn : ["enumerate", "zip", "dict_itemiterator", "dict_reverseitemiterator", "odict_iterator", "itertools.zip_longest", "itertools.pairwise"].contains n = false) (hQ : Q () s) : wpAny M A (letOwnedTupleGo tg (.ref it) u) Q E s := by
  unfold letOwnedTupleGo
  cases tg <;> first
    | exact wpAny_pure hQ
    | (cases u <;> first
        | exact wpAny_pure hQ
        | (refine wpAny_bind (wpAny_load ho ?_)
           rw [hc, hd]
           show wpAny M A (if (["enumerate", "zip", "dict_itemiterator", "dict_reverseitemiterator", "odict_iterator", "itertools.zip_longest", "itertools.pairwise"].contains n && vs[0]? == some (rawInt _)) = true then _ else _) Q E s
           rw [if_neg (by intro h; rw [hn, Bool.false_and] at h; cases h)]
           exact wpAny_pure hQ))
noncomputable def Itl (K : PySem.W.Frag) (a : Addr) : It :=
  ⟨fun i H => ∃ xs x, SqL K H a xs ∧ xs[i]? = some x, fun i H x H' => H' = H ∧ ∀ xs, SqL K H a xs → xs[i]? = some x, fun i H => ∃ xs, SqL K H a xs ∧ xs.length ≤ i⟩
noncomputable def Itt (K : PySem.W.Frag) (a : Addr) : It :=
  ⟨fun i H => ∃ xs x, SqT K H a xs ∧ xs[i]? = some x, fun i H x H' => H' = H ∧ ∀ xs, SqT K H a xs → xs[i]? = some x, fun i H => ∃ xs, SqT K H a xs ∧ xs.length ≤ i⟩
noncomputable def Itr (lo : Int) (n : Nat) : It := ⟨fun i _ => i < n, fun i H x H' => H' = H ∧ x = .int (lo + i), fun i _ => n ≤ i⟩
theorem turn_list {P : Program} {w : World} {K : PySem.W.Frag} {tg : Expr} (a it : Addr) : Turn P w K tg (Itl K a) [it] it (fun i h => h.IsListIter it a i) where
  mem := by simp
  obj := fun i h st b hb => by
    have e : b = it := by simpa using hb
    subst e
    obtain ⟨o, e, c, d⟩ := st
    exact ⟨o, e, fun v z => by rw [d] at z; cases z⟩
  keep := fun i h h' st k => st.at fun o e => k it (by simp) o e
  item := by
    intro X hP hw hK hc i pins s σ H E I hf st hg
    subst hP hw hK
    obtain ⟨xs, x, hq, hx⟩ := hg
    obtain ⟨its, rv, p, hz⟩ := I.list hq
    obtain ⟨u, hu, ru⟩ := rv.get hx
    obtain ⟨f0, f1, f2, f3, f4, f5⟩ := hf it (by simp)
    refine wpAny_pyNext_list_item st p.isList (x := u) (by simpa using hu) fun h' st' sb => ?_
    have I1 : Inv X pins σ H { s with heap := h' } := I.turned (t' := s.toks) (fun b o hb e => (sb.2 b hb).trans e) f0 f1 f3 f4 f5
    obtain ⟨o, e, c, d⟩ := id st'
    exact ⟨u, rfl, go_of (s := { s with heap := h' }) e c d (by decide) ⟨x, H, I1, ru, ⟨rfl, fun ys hy => by rw [I.list_inj hy hq]; exact hx⟩, st', fun b hb => (hf b hb).1⟩⟩
  done := by
    intro X hP hw hK hc i pins s σ H E I hf st hg
    subst hP hw hK
    obtain ⟨xs, hq, hx⟩ := hg
    obtain ⟨its, rv, p, hz⟩ := I.list hq
    obtain ⟨f0, f1, f2, f3, f4, f5⟩ := hf it (by simp)
    have hl := rv.length
    exact wpAny_pyNext_list_end (I.ok.hd hc) st p.isList (by simp; omega) fun h' eb => ⟨rfl, I.turned (t' := s.toks) (fun b o hb e => eb b o hb e) f0 f1 f3 f4 f5⟩
  self := fun _ _ _ _ _ st h => wpAny_pyIter_listiter st h
theorem turn_tuple {P : Program} {w : World} {K : PySem.W.Frag} {tg : Expr} (a it : Addr) : Turn P w K tg (Itt K a) [it] it (fun i h => h.IsTupleIter it a i) where
  mem := by simp
  obj := fun i h st b hb => by
    have e : b = it := by simpa using hb
    subst e
    obtain ⟨o, e, c, d⟩ := st
    exact ⟨o, e, fun v z => by rw [d] at z; cases z⟩
  keep := fun i h h' st k => st.at fun o e => k it (by simp) o e
  item := by
    intro X hP hw hK hc i pins s σ H E I hf st hg
    subst hP hw hK
    obtain ⟨xs, x, hq, hx⟩ := hg
    obtain ⟨its, rv, p, hz⟩ := I.tuple hq
    obtain ⟨u, hu, ru⟩ := rv.get hx
    obtain ⟨f0, f1, f2, f3, f4, f5⟩ := hf it (by simp)
    refine wpAny_pyNext_tuple_item st (show s.heap.IsTuple a its.toArray from p) (x := u) (by simpa using hu) fun h' st' sb => ?_
    have I1 : Inv X pins σ H { s with heap := h' } := I.turned (t' := s.toks) (fun b o hb e => (sb.2 b hb).trans e) f0 f1 f3 f4 f5
    obtain ⟨o, e, c, d⟩ := id st'
    exact ⟨u, rfl, go_of (s := { s with heap := h' }) e c d (by decide) ⟨x, H, I1, ru, ⟨rfl, fun ys hy => by rw [I.tuple_inj hy hq]; exact hx⟩, st', fun b hb => (hf b hb).1⟩⟩
  done := by
    intro X hP hw hK hc i pins s σ H E I hf st hg
    subst hP hw hK
    obtain ⟨xs, hq, hx⟩ := hg
    obtain ⟨its, rv, p, hz⟩ := I.tuple hq
    obtain ⟨f0, f1, f2, f3, f4, f5⟩ := hf it (by simp)
    have hl := rv.length
    exact wpAny_pyNext_tuple_end (I.ok.hd hc) st (show s.heap.IsTuple a its.toArray from p) (by simp; omega) fun h' eb => ⟨rfl, I.turned (t' := s.toks) (fun b o hb e => eb b o hb e) f0 f1 f3 f4 f5⟩
  self := fun _ _ _ _ _ st h => wpAny_pyIter_tupleiter st h
theorem turn_range {P : Program} {w : World} {K : PySem.W.Frag} {tg : Expr} (it : Addr) (lo : Int) (n : Nat) : Turn P w K tg (Itr lo n) [it] it (fun i h => IsRangeIter h it (lo + (i : Nat) * 1) ((n : Int) - (i : Nat)) 1) where
  mem := by simp
  obj := fun i h st b hb => by
    have e : b = it := by simpa using hb
    subst e
    exact ⟨_, st, fun v z => by
      have z' : Data.fields _ = Data.cell v := z
      cases z'⟩
  keep := fun i h h' st k => k it (by simp) _ st
  item := by
    intro X hP hw hK hc i pins s σ H E I hf st hg
    subst hP hw hK
    obtain ⟨f0, f1, f2, f3, f4, f5⟩ := hf it (by simp)
    have W := Walks.range (prog := X.prog) (w := X.w) (I.ok.hd hc) it lo 1 n
    refine W.item i s _ _ hg st fun v h' tk hv st' kk => ?_
    obtain ⟨t, rfl⟩ := hv
    have I1 : Inv X pins σ H { s with heap := h', toks := tk } := I.turned (fun b o hb e => kk b o (by simpa using hb) e) f0 f1 f3 f4 f5
    refine ⟨_, rfl, go_of (s := { s with heap := h', toks := tk }) (n := "range_iterator") st' rfl rfl (by decide) ⟨.int (lo + i), H, I1, ⟨t, ?_⟩, ⟨rfl, rfl⟩, st', fun b hb => (hf b hb).1⟩⟩
    rw [Int.mul_one]
  done := by
    intro X hP hw hK hc i pins s σ H E I hf st hg
    subst hP hw hK
    obtain ⟨f0, f1, f2, f3, f4, f5⟩ := hf it (by simp)
    exact wpAny_pyNext_range_end (I.ok.hd hc) st (by have : n ≤ i := hg; omega) fun h' eb => ⟨rfl, I.turned (t' := s.toks) (fun b o hb e => eb b o hb e) f0 f1 f3 f4 f5⟩
  self := fun _ _ _ _ _ st h => wpAny_pyIter_rangeiter st h
end L2
namespace L2
open PySem PySem.Spec PyProof.Rows
section
variable {X : Cx} {tg : Expr}
theorem range_it {pins : List (Addr × Obj)} {σ : St} {H : Hp} {s : Shared} {R : It → Hp → Prop} {E : Value → Shared → Prop} {lo hi : Int} {t u v : Tok} {tk : Nat} (I : Inv X pins σ H s) (h1 : -(2 ^ 62) ≤ lo) (h2 : lo < 2 ^ 62) (h3 : -(2 ^ 62) ≤ hi) (h4 : hi < 2 ^ 62)
    (q : R (Itr lo (hi - lo).toNat) H) : wpAny (model X.prog X.w) X.A (pyIter (.ref s.heap.objs.size)) (PIE X pins σ tg R) E { s with heap := s.heap.push { cls := .type "range", data := .fields #[.int lo t, .int hi u, .int 1 v] }, toks := tk } := by
  refine wpAny_pyIter_range (IsRange.new ..) (small_one h1 h2 h3 h4) ?_
  have I1 : Inv X pins σ H { s with heap := s.heap.push { cls := .type "range", data := .fields #[.int lo t, .int hi u, .int 1 v] }, toks := tk } := I.kept fun b o e => Heap.get?_push_of_some _ e
  refine ⟨(s.heap.push { cls := .type "range", data := .fields #[.int lo t, .int hi u, .int 1 v] }).objs.size, [(s.heap.push { cls := .type "range", data := .fields #[.int lo t, .int hi u, .int 1 v] }).objs.size], _, _, H, rfl,
    I1.kept (t' := tk) fun b o e => Heap.get?_push_of_some _ e, turn_range _ lo (hi - lo).toNat, ?_, fun b hb => ?_, q⟩
  · have e1 : lo + ((0 : Nat) : Int) * 1 = lo := by simp
    have e2 : (((hi - lo).toNat : Nat) : Int) - ((0 : Nat) : Int) = Builtin.Range.rangeSize lo hi 1 := by rw [rangeSize_one]; split <;> omega
    show IsRangeIter _ _ (lo + ((0 : Nat) : Int) * 1) ((((hi - lo).toNat : Nat) : Int) - ((0 : Nat) : Int)) 1
    rw [e1, e2]
    exact Heap.get?_push_size _ rfl
  · have e : b = (s.heap.push { cls := .type "range", data := .fields #[.int lo t, .int hi u, .int 1 v] }).objs.size := by simpa using hb
    subst e
    exact I1.fpOk (Nat.le_refl _) (I1.hok.fresh (Nat.le_refl _))
noncomputable def iRng1 (ta : TA) : TI := fun σ H R => ta σ H fun vs H1 => ∃ j : Int, vs = [.int j] ∧ -(2 ^ 62) ≤ j ∧ j < 2 ^ 62 ∧ R (Itr 0 j.toNat) H1
theorem pi_range1 {a : Expr} {ta : TA} {p pos : Pos} (hg : Gl X "range") (hm : X.mg "range" = none) (ha : PA X [a] ta) (hs : starEach [a] X.env = [(false, eval a X.env)] := by rfl) : PI X tg (.Call (.Name "range" p) [a] [] pos) (iRng1 ta) := by
  intro pins s σ H R I h
  refine Call_ (ld_blt I hg hm boot_range (PyProof.Rows.callWith_type1 (thn (ha pos pins s σ H _ I h) fun us s1 ⟨vs, H1, I1, r1, q1⟩ => ?_) hs rfl))
  obtain ⟨j, e, q1, q2, q⟩ := q1
  subst e
  cases r1 with
  | cons r rr =>
    cases rr
    obtain ⟨t, rfl⟩ := r
    exact call_range_1 (range_it I1 (by omega) (by omega) q1 q2 (by simpa using q))
noncomputable def tFor (wi : TI) (g : TG) (tb : TS) : TS := fun D σ H => wi σ H fun J H1 => ∃ W : Nat → Nat → St → Hp → Prop, (∃ m, W 0 m σ H1) ∧ ∀ i m σ H, W i m σ H →
  (J.stop i H ∧ D.nx σ H) ∨ (J.go i H ∧ ∃ N : St → Hp → Prop, (∀ σ' H', N σ' H' → ∃ m', m' < m ∧ W (i + 1) m' σ' H') ∧ ∀ x H', J.yld i H x H' → g x σ H' fun σ2 H2 => tb { D with nx := N, ct := N, bk := D.nx } σ2 H2)
noncomputable def pinsAt (fp : List Addr) (h : Heap) : List (Addr × Obj) := fp.filterMap fun b => (h.get? b).map fun o => (b, o)
theorem mem_pinsAt {fp : List Addr} {h : Heap} {b : Addr} {o : Obj} (hb : b ∈ fp) (e : h.get? b = some o) : (b, o) ∈ pinsAt fp h := List.mem_filterMap.mpr ⟨b, hb, by rw [e]; rfl⟩
theorem of_pinsAt {fp : List Addr} {h : Heap} {p : Addr × Obj} (hp : p ∈ pinsAt fp h) : p.1 ∈ fp ∧ h.get? p.1 = some p.2 := by
  obtain ⟨b, hb, e⟩ := List.mem_filterMap.mp hp
  cases q : h.get? b with
  | none => rw [q] at e; cases e
  | some o =>
    rw [q] at e
    have e' : (b, o) = p := Option.some.inj e
    subst e'
    exact ⟨hb, q⟩
theorem Inv.pinned {pins : List (Addr × Obj)} {σ : St} {H : Hp} {s : Shared} {fp : List Addr} (I : Inv X pins σ H s) (hf : ∀ b ∈ fp, FpOk X pins H b) (ho : ∀ b ∈ fp, ∃ o, s.heap.get? b = some o ∧ ∀ v, o.data ≠ .cell v) : Inv X (pins ++ pinsAt fp s.heap) σ H s :=
  I.pins_of fun p hp => (List.mem_append.mp hp).elim (fun z => I.pin p (List.mem_append_right _ z)) fun z => by
    obtain ⟨hb, e⟩ := of_pinsAt z
    obtain ⟨f0, f1, f2, _⟩ := hf p.1 hb
    obtain ⟨o, e', d⟩ := ho p.1 hb
    rw [e] at e'; cases e'
    exact ⟨e, f0, f1, f2, d⟩
theorem Inv.unpinned {pins pl : List (Addr × Obj)} {σ : St} {H : Hp} {s : Shared} (I : Inv X (pins ++ pl) σ H s) : Inv X pins σ H s := I.pins_of fun p hp => I.pin p (List.mem_append_right _ (List.mem_append_left _ hp))
theorem ps_for {iter : Expr} {body : List Stmt} {wi : TI} {g : TG} {tb : TS} {pos : Pos} (hp : PassesOwn (model X.prog X.w) X.A X.env X.xe) (hc : X.calm = true) (hi : PI X tg iter wi) (hg : PG X tg g) (hb : PSs X body tb)
    (hs : ∀ x, foldedSetIterable iter X.env x = pure x := by intro _; rfl) : PS X (.For tg iter body [] pos) (tFor wi g tb) := by
  intro pins s σ H D I h
  refine wpAny_For (thn (hi pins s σ H _ I h) fun v s1 h1 => thn h1 fun itv s2 h2 => ?_) hs
  obtain ⟨it, fp, tn, J, H2, e, I2, T, st2, f2, W, ⟨m0, w0⟩, turn⟩ := h2
  subst e
  have stat : ∀ {H' : Hp}, (∀ b ∈ fp, H' b = none) → ∀ b ∈ fp, FpOk X pins H' b := fun hn b hb => ⟨hn b hb, (f2 b hb).2⟩
  refine codeAny_forLoop_any (fun n s' => ∃ i σ' H', Inv X pins σ' H' s' ∧ tn i s'.heap ∧ (∀ b ∈ fp, H' b = none) ∧ W i n σ' H') ?_ m0 ⟨0, σ, H2, I2, st2, fun b hb => (f2 b hb).1, w0⟩
  rintro n s3 ⟨i, σ3, H3, I3, st3, fr3, w3⟩
  rcases turn i n σ3 H3 w3 with ⟨stop, qn⟩ | ⟨go, N, hN, step⟩
  · refine wpAny_passesOwn hp (thn (T.done X rfl rfl rfl hc i pins s3 σ3 H3 X.xe I3 (stat fr3) st3 stop) fun r s4 ⟨hr, I4⟩ => ?_)
    subst hr
    exact wpAny_execs_nil ⟨σ3, H3, I4, qn⟩
  · refine wpAny_passesOwn hp (thn (T.item X rfl rfl rfl hc i pins s3 σ3 H3 X.xe I3 (stat fr3) st3 go) fun r s4 ⟨u, hr, h4⟩ => ?_)
    subst hr
    refine wpAny_passesOwn hp (thn h4 fun _ s5 ⟨x, H5, I5, r5, y5, st5, fr5⟩ => ?_)
    have I5' := I5.pinned (stat fr5) (T.obj _ _ st5)
    refine wpAny_passesOwn hp (thn (hg _ s5 σ3 H5 x u _ I5' r5 (step x H5 y5)) fun _ s6 ⟨σ6, H6, I6, q6⟩ => ?_)
    refine wpAny_passesOwn hp (thn (hb _ s6 σ6 H6 _ I6 q6) fun f s7 q7 => ?_)
    have again : ∀ {σ7 : St} {H7 : Hp}, Inv X (pins ++ pinsAt fp s5.heap) σ7 H7 s7 → N σ7 H7 → ∃ m, m < n ∧ ∃ i σ' H', Inv X pins σ' H' s7 ∧ tn i s7.heap ∧ (∀ b ∈ fp, H' b = none) ∧ W i m σ' H' := fun {σ7 H7} I7 n7 => by
      obtain ⟨m', hm, w7⟩ := hN σ7 H7 n7
      refine ⟨m', hm, i + 1, σ7, H7, I7.unpinned, T.keep _ _ _ st5 fun b hb o e => (I7.pin (b, o) (List.mem_append_right _ (List.mem_append_right _ (mem_pinsAt hb e)))).1, fun b hb => ?_, w7⟩
      obtain ⟨o, e, d⟩ := T.obj _ _ st5 b hb
      exact (I7.pin (b, o) (List.mem_append_right _ (List.mem_append_right _ (mem_pinsAt hb e)))).2.1
    cases f with
    | next => obtain ⟨σ7, H7, I7, n7⟩ := q7; exact again I7 n7
    | cont => obtain ⟨σ7, H7, I7, n7⟩ := q7; exact again I7 n7
    | brk => obtain ⟨σ7, H7, I7, q7⟩ := q7; exact ⟨σ7, H7, I7.unpinned, q7⟩
    | ret v => obtain ⟨x7, σ7, H7, I7, r7, q7⟩ := q7; exact ⟨x7, σ7, H7, I7.unpinned, r7, q7⟩
end
end L2
namespace L2
open PySem PySem.Spec PyProof.Rows
noncomputable abbrev R2 := V → V → Hp → VK → Prop
noncomputable def OpR (X : Cx) (f : Value → Value → Sem Value) (r : R2) : Prop :=
  ∀ (pins : List (Addr × Obj)) (s : Shared) (σ : St) (H : Hp) (x y : V) (v u : Value) (Q : VK), Inv X pins σ H s → RelV x v → RelV y u → r x y H Q →
    wpAny (model X.prog X.w) X.A (f v u) (EP X pins σ Q) X.xe s
noncomputable def UnR (X : Cx) (f : Value → Sem Value) (r : V → Hp → VK → Prop) : Prop :=
  ∀ (pins : List (Addr × Obj)) (s : Shared) (σ : St) (H : Hp) (x : V) (v : Value) (Q : VK), Inv X pins σ H s → RelV x v → r x H Q →
    wpAny (model X.prog X.w) X.A (f v) (EP X pins σ Q) X.xe s
noncomputable def CallR (X : Cx) (f : Value) (r : List V → Hp → VK → Prop) : Prop :=
  ∀ (pins : List (Addr × Obj)) (s : Shared) (σ : St) (H : Hp) (xs : List V) (us : List Value) (Q : VK), Inv X pins σ H s → Vals xs us → r xs H Q →
    wpAny (model X.prog X.w) X.A (call f us) (EP X pins σ Q) X.xe s
noncomputable def TruR (X : Cx) (r : V → Hp → (Bool → Hp → Prop) → Prop) : Prop :=
  ∀ (pins : List (Addr × Obj)) (s : Shared) (σ : St) (H : Hp) (x : V) (v : Value) (Q : Bool → Hp → Prop), Inv X pins σ H s → RelV x v → r x H Q →
    wpAny (model X.prog X.w) X.A (truthy v) (TP X pins σ Q) X.xe s
noncomputable def tOp (r : R2) (ta tb : TE) : TE := fun σ H Q => ta σ H fun x H1 => tb σ H1 fun y H2 => r x y H2 Q
noncomputable def tUn (r : V → Hp → VK → Prop) (ta : TE) : TE := fun σ H Q => ta σ H fun x H1 => r x H1 Q
noncomputable def rI (C : Int → Int → Prop) (g : Int → Int → V) : R2 := fun x y H Q => ∃ i j, x = .int i ∧ y = .int j ∧ C i j ∧ Q (g i j) H
noncomputable def rI0 (g : Int → Int → V) : R2 := fun x y H Q => ∃ i j, x = .int i ∧ y = .int j ∧ Q (g i j) H
noncomputable def rU (g : Int → V) : V → Hp → VK → Prop := fun x H Q => ∃ i, x = .int i ∧ Q (g i) H
section
variable {X : Cx} {a b c : Expr} {ta tb tc : TE} {pos : Pos}
theorem binT (ha : PE X a ta) (hb : PE X b tb) {pins : List (Addr × Obj)} {s : Shared} {σ : St} {H : Hp} {R : V → V → Hp → Prop} (I : Inv X pins σ H s)
    (h : ta σ H fun x H1 => tb σ H1 fun y H2 => R x y H2) {Q : Value → Shared → Prop} {f : Value → Value → Sem Value}
    (hf : ∀ v u s2 x y H2, Inv X pins σ H2 s2 → RelV x v → RelV y u → R x y H2 → wpAny (model X.prog X.w) X.A (f v u) Q X.xe s2) :
    wpAny (model X.prog X.w) X.A (eval a X.env) (fun v s₁ => wpAny (model X.prog X.w) X.A (eval b X.env) (fun u s₂ => wpAny (model X.prog X.w) X.A (f v u) Q X.xe s₂) X.xe s₁) X.xe s := by
  refine thn (ha pins s σ H _ I h) fun v s1 ⟨x, H1, I1, r1, q1⟩ => ?_
  refine thn (hb pins s1 σ H1 _ I1 q1) fun u s2 ⟨y, H2, I2, r2, q2⟩ => ?_
  exact hf v u s2 x y H2 I2 r1 r2 q2
theorem pe_op {op : Operator} {r : R2} (ho : OpR X (binaryOp op) r) (ha : PE X a ta) (hb : PE X b tb) : PE X (.BinOp a op b pos) (tOp r ta tb) := by
  intro pins s σ H Q I h
  exact wpAny_BinOp (binT ha hb I h fun v u s2 x y H2 I2 rx ry q => ho pins s2 σ H2 x y v u Q I2 rx ry q)
theorem pe_un {op : UnaryOp} {r : V → Hp → VK → Prop} (ho : UnR X (unaryOp op) r) (ha : PE X a ta) : PE X (.UnaryOp op a pos) (tUn r ta) := by
  intro pins s σ H Q I h
  exact UnaryOp_ (thn (ha pins s σ H _ I h) fun v s1 ⟨x, H1, I1, r1, q1⟩ => ho pins s1 σ H1 x v Q I1 r1 q1)
theorem opI {f : Value → Value → Sem Value} {C : Int → Int → Prop} {g : Int → Int → Int}
    (rule : ∀ (i j : Int) (t u : Tok) (s : Shared) (Q : Value → Shared → Prop) (E : Value → Shared → Prop), C i j → Q (.int (g i j) s.toks) { s with toks := s.toks + 1 } → wpAny (model X.prog X.w) X.A (f (.int i t) (.int j u)) Q E s) :
    OpR X f (rI C fun i j => .int (g i j)) := by
  intro pins s σ H x y v u Q I rx ry h
  obtain ⟨i, j, rfl, rfl, hc, q⟩ := h
  obtain ⟨t, rfl⟩ := rx
  obtain ⟨t', rfl⟩ := ry
  exact rule i j t t' s _ _ hc ⟨.int (g i j), H, I.tok _, ⟨_, rfl⟩, q⟩
theorem opI0 {f : Value → Value → Sem Value} {g : Int → Int → Int}
    (rule : ∀ (i j : Int) (t u : Tok) (s : Shared) (Q : Value → Shared → Prop) (E : Value → Shared → Prop), Q (.int (g i j) s.toks) { s with toks := s.toks + 1 } → wpAny (model X.prog X.w) X.A (f (.int i t) (.int j u)) Q E s) :
    OpR X f (rI0 fun i j => .int (g i j)) := by
  intro pins s σ H x y v u Q I rx ry h
  obtain ⟨i, j, rfl, rfl, q⟩ := h
  obtain ⟨t, rfl⟩ := rx
  obtain ⟨t', rfl⟩ := ry
  exact rule i j t t' s _ _ ⟨.int (g i j), H, I.tok _, ⟨_, rfl⟩, q⟩
theorem opB0 {f : Value → Value → Sem Value} {g : Int → Int → Bool}
    (rule : ∀ (i j : Int) (t u : Tok) (s : Shared) (Q : Value → Shared → Prop) (E : Value → Shared → Prop), Q (.bool (g i j)) s → wpAny (model X.prog X.w) X.A (f (.int i t) (.int j u)) Q E s) :
    OpR X f (rI0 fun i j => .bl (g i j)) := by
  intro pins s σ H x y v u Q I rx ry h
  obtain ⟨i, j, rfl, rfl, q⟩ := h
  obtain ⟨t, rfl⟩ := rx
  obtain ⟨t', rfl⟩ := ry
  exact rule i j t t' s _ _ ⟨.bl (g i j), H, I, rfl, q⟩
noncomputable def CDiv (i j : Int) : Prop := 0 < j ∧ j < 1073741824
noncomputable def CPow (i j : Int) : Prop := 0 ≤ j ∧ j ≤ 1000000 ∧ i.natAbs < 2 ^ 64
noncomputable def CMul (i j : Int) : Prop := (-(2 ^ 64) < i ∧ i < 2 ^ 64) ∨ (-(2 ^ 64) < j ∧ j < 2 ^ 64)
theorem CMul.ok {i j : Int} (h : CMul i j) : IntMulOk i j := by
  rcases h with ⟨h1, h2⟩ | ⟨h1, h2⟩
  · exact .of_left (intBits_le_64 h1 h2)
  · exact .of_right (intBits_le_64 h1 h2)
theorem two_pow_nn (k : Nat) : (0 : Int) ≤ 2 ^ k := by
  rw [two_pow_cast]
  exact Int.natCast_nonneg _
theorem op_add : OpR X (binaryOp .Add) (rI0 fun i j => .int (i + j)) := opI0 fun _ _ _ _ _ _ _ q => add_int q
theorem op_sub : OpR X (binaryOp .Sub) (rI0 fun i j => .int (i - j)) := opI0 fun _ _ _ _ _ _ _ q => sub_int q
theorem op_mul : OpR X (binaryOp .Mult) (rI CMul fun i j => .int (i * j)) := opI fun _ _ _ _ _ _ _ hc q => mul_int q hc.ok
theorem op_fdiv : OpR X (binaryOp .FloorDiv) (rI CDiv fun i j => .int (i / j)) := opI fun i j _ _ _ _ _ hc q => by
  have h1 : (0 : Int) < j := hc.1
  have h2 : j < 1073741824 := hc.2
  exact floordiv_int (by omega) (by rw [Int.fdiv_eq_ediv_of_nonneg i (by omega)]; exact q) (.inl (PyProof.noPylong_small (by omega)))
theorem op_mod : OpR X (binaryOp .Mod) (rI (fun _ j => 0 < j) fun i j => .int (i % j)) := opI fun i j _ _ _ _ _ hc q => by
  have h1 : (0 : Int) < j := hc
  exact mod_int' (by omega) (by rw [Int.fmod_eq_emod_of_nonneg i (by omega)]; exact q)
theorem op_pow : OpR X (binaryOp .Pow) (rI CPow fun i j => .int (i ^ j.toNat)) := opI fun _ _ _ _ _ _ _ hc q => pow_int_small hc.1 hc.2.1 hc.2.2 q
theorem op_shr : OpR X (binaryOp .RShift) (rI (fun _ j => 0 ≤ j) fun i j => .int (i / 2 ^ j.toNat)) := opI fun i j _ _ _ _ _ hc q =>
  rshift_int hc (by rw [Int.fdiv_eq_ediv_of_nonneg i (two_pow_nn _)]; exact q)
theorem unI {f : Value → Sem Value} {g : Int → Int}
    (rule : ∀ (i : Int) (t : Tok) (s : Shared) (Q : Value → Shared → Prop) (E : Value → Shared → Prop), Q (.int (g i) s.toks) { s with toks := s.toks + 1 } → wpAny (model X.prog X.w) X.A (f (.int i t)) Q E s) :
    UnR X f (rU fun i => .int (g i)) := by
  intro pins s σ H x v Q I rx h
  obtain ⟨i, rfl, q⟩ := h
  obtain ⟨t, rfl⟩ := rx
  exact rule i t s _ _ ⟨.int (g i), H, I.tok _, ⟨_, rfl⟩, q⟩
theorem un_neg : UnR X (unaryOp .USub) (rU fun i => .int (-i)) := unI fun _ _ _ _ _ q => neg_int q
end
noncomputable def scal : V → V → Bool
  | .non, .non => true | .non, .int _ => true | .int _, .non => true | .non, .bl _ => true | .bl _, .non => true | .non, .str _ => true | .str _, .non => true
  | .int _, .int _ => true | .bl _, .bl _ => true | .str _, .str _ => true | .byt _, .byt _ => true
  | .int _, .str _ => true | .str _, .int _ => true | .bl _, .str _ => true | .str _, .bl _ => true
  | _, _ => false
noncomputable def rEq : R2 := fun x y H Q => scal x y = true ∧ Q (.bl (decide (x = y))) H
noncomputable def rNe : R2 := fun x y H Q => scal x y = true ∧ Q (.bl (!decide (x = y))) H
theorem dec_int {i j : Int} : decide (V.int i = V.int j) = (i == j) := by
  rw [Bool.eq_iff_iff]
  simp
theorem dec_bl {i j : Bool} : decide (V.bl i = V.bl j) = (i == j) := by
  rw [Bool.eq_iff_iff]
  simp
theorem dec_str {i j : Str} : decide (V.str i = V.str j) = (i == j) := by
  rw [Bool.eq_iff_iff]
  simp
theorem dec_byt {i j : Array UInt8} : decide (V.byt i = V.byt j) = (i.toList == j.toList) := by
  rw [Bool.eq_iff_iff]
  cases i
  cases j
  simp
section
variable {X : Cx} {a b c : Expr} {ta tb tc : TE} {pos : Pos}
theorem fin_bl {pins : List (Addr × Obj)} {σ : St} {H : Hp} {s : Shared} {Q : VK} {k k' : Bool} (I : Inv X pins σ H s) (q : Q (.bl k) H) (e : k = k') : EP X pins σ Q (.bool k') s := by
  subst e
  exact ⟨.bl k, H, I, rfl, q⟩
theorem op_eq : OpR X (compareOp .Eq) rEq := by
  intro pins s σ H x y v u Q I rx ry h
  obtain ⟨hs, q⟩ := h
  cases x with
  | non =>
    cases rx
    cases y with
    | non => cases ry; exact PySem.EqNone.eq_none_none (fin_bl I q (by simp))
    | bl j => cases ry; exact PySem.EqNone.eq_none_bool (fin_bl I q (by simp))
    | int j => obtain ⟨t', rfl⟩ := ry; exact PySem.EqNone.eq_none_int (fin_bl I q (by simp))
    | str j => obtain ⟨t', rfl⟩ := ry; exact PySem.EqNone.eq_none_str (fin_bl I q (by simp))
    | _ => exact absurd (show false = true from hs) Bool.false_ne_true
  | bl i =>
    cases rx
    cases y with
    | non => cases ry; exact PySem.EqNone.eq_bool_none (fin_bl I q (by simp))
    | bl j => cases ry; exact eq_bool (fin_bl I q dec_bl)
    | str j => obtain ⟨t', rfl⟩ := ry; exact PySem.EqMixed.eq_bool_str (fin_bl I q (by simp))
    | _ => exact absurd (show false = true from hs) Bool.false_ne_true
  | int i =>
    obtain ⟨t, rfl⟩ := rx
    cases y with
    | non => cases ry; exact PySem.EqNone.eq_int_none (fin_bl I q (by simp))
    | int j => obtain ⟨t', rfl⟩ := ry; exact eq_int (fin_bl I q dec_int)
    | str j => obtain ⟨t', rfl⟩ := ry; exact PySem.EqMixed.eq_int_str (fin_bl I q (by simp))
    | _ => exact absurd (show false = true from hs) Bool.false_ne_true
  | str i =>
    obtain ⟨t, rfl⟩ := rx
    cases y with
    | non => cases ry; exact PySem.EqNone.eq_str_none (fin_bl I q (by simp))
    | bl j => cases ry; exact PySem.EqMixed.eq_str_bool (fin_bl I q (by simp))
    | int j => obtain ⟨t', rfl⟩ := ry; exact PySem.EqMixed.eq_str_int (fin_bl I q (by simp))
    | str j => obtain ⟨t', rfl⟩ := ry; exact eq_str (fin_bl I q dec_str)
    | _ => exact absurd (show false = true from hs) Bool.false_ne_true
  | byt i =>
    obtain ⟨t, rfl⟩ := rx
    cases y with
    | byt j => obtain ⟨t', rfl⟩ := ry; exact PySem.W.eq_bytes (fin_bl I q dec_byt)
    | _ => exact absurd (show false = true from hs) Bool.false_ne_true
  | _ => cases y <;> exact absurd (show false = true from hs) Bool.false_ne_true
theorem op_ne : OpR X (compareOp .NotEq) rNe := by
  intro pins s σ H x y v u Q I rx ry h
  obtain ⟨hs, q⟩ := h
  cases x with
  | non =>
    cases rx
    cases y with
    | non => cases ry; exact PySem.EqNone.ne_none_none (fin_bl I q (by simp))
    | bl j => cases ry; exact PySem.EqNone.ne_none_bool (fin_bl I q (by simp))
    | int j => obtain ⟨t', rfl⟩ := ry; exact PySem.EqNone.ne_none_int (fin_bl I q (by simp))
    | str j => obtain ⟨t', rfl⟩ := ry; exact PySem.EqNone.ne_none_str (fin_bl I q (by simp))
    | _ => exact absurd (show false = true from hs) Bool.false_ne_true
  | bl i =>
    cases rx
    cases y with
    | non => cases ry; exact PySem.EqNone.ne_bool_none (fin_bl I q (by simp))
    | bl j => cases ry; exact ne_bool (fin_bl I q (congrArg not dec_bl))
    | str j => obtain ⟨t', rfl⟩ := ry; exact PySem.EqMixed.ne_bool_str (fin_bl I q (by simp))
    | _ => exact absurd (show false = true from hs) Bool.false_ne_true
  | int i =>
    obtain ⟨t, rfl⟩ := rx
    cases y with
    | non => cases ry; exact PySem.EqNone.ne_int_none (fin_bl I q (by simp))
    | int j => obtain ⟨t', rfl⟩ := ry; exact ne_int (fin_bl I q (congrArg not dec_int))
    | str j => obtain ⟨t', rfl⟩ := ry; exact PySem.EqMixed.ne_int_str (fin_bl I q (by simp))
    | _ => exact absurd (show false = true from hs) Bool.false_ne_true
  | str i =>
    obtain ⟨t, rfl⟩ := rx
    cases y with
    | non => cases ry; exact PySem.EqNone.ne_str_none (fin_bl I q (by simp))
    | bl j => cases ry; exact PySem.EqMixed.ne_str_bool (fin_bl I q (by simp))
    | int j => obtain ⟨t', rfl⟩ := ry; exact PySem.EqMixed.ne_str_int (fin_bl I q (by simp))
    | str j => obtain ⟨t', rfl⟩ := ry; exact ne_str (fin_bl I q (congrArg not dec_str))
    | _ => exact absurd (show false = true from hs) Bool.false_ne_true
  | byt i =>
    obtain ⟨t, rfl⟩ := rx
    cases y with
    | byt j => obtain ⟨t', rfl⟩ := ry; exact PySem.W.ne_bytes (fin_bl I q (congrArg not dec_byt))
    | _ => exact absurd (show false = true from hs) Bool.false_ne_true
  | _ => cases y <;> exact absurd (show false = true from hs) Bool.false_ne_true
theorem op_lt : OpR X (compareOp .Lt) (rI0 fun i j => .bl (decide (i < j))) := opB0 fun _ _ _ _ _ _ _ q => lt_int q
theorem op_le : OpR X (compareOp .LtE) (rI0 fun i j => .bl (decide (i ≤ j))) := opB0 fun _ _ _ _ _ _ _ q => le_int q
theorem op_gt : OpR X (compareOp .Gt) (rI0 fun i j => .bl (decide (j < i))) := opB0 fun _ _ _ _ _ _ _ q => gt_int q
theorem op_ge : OpR X (compareOp .GtE) (rI0 fun i j => .bl (decide (j ≤ i))) := opB0 fun _ _ _ _ _ _ _ q => ge_int q
theorem op_in_str : OpR X (compareOp .In) (fun x y H Q => ∃ i j, x = .str i ∧ y = .str j ∧ Q (.bl (!(Builtin.Str.occurrences j i 0 j.length 1).isEmpty)) H) := by
  intro pins s σ H x y v u Q I rx ry h
  obtain ⟨i, j, rfl, rfl, q⟩ := h
  obtain ⟨t, rfl⟩ := rx
  obtain ⟨t', rfl⟩ := ry
  exact in_str (fin_bl I q rfl)
theorem op_isN : OpR X (compareOp .Is) (fun x y H Q => y = .non ∧ Q (.bl (decide (x = .non))) H) := by
  intro pins s σ H x y v u Q I rx ry h
  obtain ⟨rfl, q⟩ := h
  cases ry
  refine is_none_gen (fin_bl I q ?_)
  cases x <;> first
    | (cases rx; rfl)
    | (obtain ⟨t, rfl⟩ := rx; rfl)
theorem op_notN : OpR X (compareOp .IsNot) (fun x y H Q => y = .non ∧ Q (.bl (!decide (x = .non))) H) := by
  intro pins s σ H x y v u Q I rx ry h
  obtain ⟨rfl, q⟩ := h
  cases ry
  refine isnot_none_gen (fin_bl I q ?_)
  cases x <;> first
    | (cases rx; rfl)
    | (obtain ⟨t, rfl⟩ := rx; rfl)
theorem op_notin_str : OpR X (compareOp .NotIn) (fun x y H Q => ∃ i j, x = .str i ∧ y = .str j ∧ Q (.bl (!(!(Builtin.Str.occurrences j i 0 j.length 1).isEmpty))) H) := by
  intro pins s σ H x y v u Q I rx ry h
  obtain ⟨i, j, rfl, rfl, q⟩ := h
  obtain ⟨t, rfl⟩ := rx
  obtain ⟨t', rfl⟩ := ry
  exact notIn_str (fin_bl I q rfl)
theorem OpR.or {f : Value → Value → Sem Value} {r r' : R2} (h : OpR X f r) (h' : OpR X f r') : OpR X f (fun x y H Q => r x y H Q ∨ r' x y H Q) := by
  intro pins s σ H x y v u Q I rx ry q
  rcases q with q | q
  · exact h pins s σ H x y v u Q I rx ry q
  · exact h' pins s σ H x y v u Q I rx ry q
theorem nomark (b : Expr) {op : CmpOp} (h : op ≠ .In := by decide) (h2 : op ≠ .NotIn := by decide) : behindInMarks op b = false := by
  have e1 : (op == CmpOp.In) = false := by cases op <;> first | rfl | exact absurd rfl h
  have e2 : (op == CmpOp.NotIn) = false := by cases op <;> first | rfl | exact absurd rfl h2
  cases b <;> simp [behindInMarks, e1, e2]
theorem pe_cmpR {op : CmpOp} {r : R2} (ho : OpR X (compareOp op) r) (ha : PE X a ta) (hb : PE X b tb) (hm : behindInMarks op b = false) : PE X (.Compare a [op] [b] pos) (tOp r ta tb) := by
  intro pins s σ H Q I h
  exact wpAny_Compare1 (binT ha hb I h fun v u s2 x y H2 I2 rx ry q => ho pins s2 σ H2 x y v u Q I2 rx ry q) hm
noncomputable def tTest (t : TE) : TT := fun σ H Q => t σ H fun x H' => ∃ k, x = .bl k ∧ Q k H'
theorem pt_cmpR {op : CmpOp} {r : R2} (ho : OpR X (compareOp op) r) (ha : PE X a ta) (hb : PE X b tb) (hm : behindInMarks op b = false) : PT X (.Compare a [op] [b] pos) (tTest (tOp r ta tb)) := by
  intro pins s σ H Q I h
  refine wpAny_isTrue_Compare1 (thn (ha pins s σ H _ I h) fun v s1 ⟨x, H1, I1, r1, q1⟩ => thn (hb pins s1 σ H1 _ I1 q1) fun u s2 ⟨y, H2, I2, r2, q2⟩ =>
    thn (ho pins s2 σ H2 x y v u _ I2 r1 r2 q2) fun c s3 ⟨z, H3, I3, r3, k, e, q3⟩ => ?_) hm
  subst e
  cases r3
  exact wpAny_truthy_bool ⟨H3, I3, q3⟩
noncomputable def tChain (r r' : R2) (ta tb tc : TE) : TE := fun σ H Q => ta σ H fun x H1 => tb σ H1 fun y H2 => r x y H2 fun z H3 => ∃ k, z = .bl k ∧
  (if k = true then tc σ H3 fun w' H4 => r' y w' H4 Q else Q (.bl false) H3)
theorem pe_chain {op op' : CmpOp} {r r' : R2} (ho : OpR X (compareOp op) r) (ho' : OpR X (compareOp op') r') (ha : PE X a ta) (hb : PE X b tb) (hc : PE X c tc)
    (hm : lastMarks [op, op'] [b, c] = false := by with_unfolding_all rfl) : PE X (.Compare a [op, op'] [b, c] pos) (tChain r r' ta tb tc) := by
  intro pins s σ H Q I h
  refine Compare_chain (thn (ha pins s σ H _ I h) fun v s1 ⟨x, H1, I1, r1, q1⟩ => chain_link (thn (hb pins s1 σ H1 _ I1 q1) fun u s2 ⟨y, H2, I2, r2, q2⟩ =>
    thn (ho pins s2 σ H2 x y v u _ I2 r1 r2 q2) fun d s3 ⟨z, H3, I3, r3, k, e, q3⟩ => ?_)) hm
  subst e
  cases r3
  refine wpAny_truthy_bool ?_
  cases k with
  | false => exact ite_ff ⟨.bl false, H3, I3, rfl, q3⟩
  | true => exact ite_tt (chain_last (thn (hc pins s3 σ H3 _ I3 q3) fun w' s4 ⟨z', H4, I4, r4, q4⟩ => ho' pins s4 σ H4 y z' u w' Q I4 r2 r4 q4))
theorem pt_chain {op op' : CmpOp} {r r' : R2} (ho : OpR X (compareOp op) r) (ho' : OpR X (compareOp op') r') (ha : PE X a ta) (hb : PE X b tb) (hc : PE X c tc)
    (hm : lastMarks [op, op'] [b, c] = false := by with_unfolding_all rfl) : PT X (.Compare a [op, op'] [b, c] pos) (tTest (tChain r r' ta tb tc)) := by
  intro pins s σ H Q I h
  refine isTrue_chain (thn (ha pins s σ H _ I h) fun v s1 ⟨x, H1, I1, r1, q1⟩ => test_link (thn (hb pins s1 σ H1 _ I1 q1) fun u s2 ⟨y, H2, I2, r2, q2⟩ =>
    thn (ho pins s2 σ H2 x y v u _ I2 r1 r2 q2) fun d s3 ⟨z, H3, I3, r3, k, e, q3⟩ => ?_)) hm
  subst e
  cases r3
  refine wpAny_truthy_bool ?_
  cases k with
  | false =>
    obtain ⟨k', e', q'⟩ := q3
    cases e'
    exact ite_ff ⟨H3, I3, q'⟩
  | true =>
    refine ite_tt (test_last (thn (hc pins s3 σ H3 _ I3 q3) fun w' s4 ⟨z', H4, I4, r4, q4⟩ => thn (ho' pins s4 σ H4 y z' u w' _ I4 r2 r4 q4) fun d' s5 ⟨z2, H5, I5, r5, k2, e2, q5⟩ => ?_))
    subst e2
    cases r5
    exact wpAny_truthy_bool ⟨H5, I5, q5⟩
noncomputable def TruV (K : PySem.W.Frag) (x : V) (H : Hp) (k : Bool) : Prop :=
  match x with
  | .non => k = false
  | .bl b => k = b
  | .int i => k = (i != 0)
  | .str y => y.length ≤ sizeLine ∧ k = ((y.length : Int) != 0)
  | .byt y => y.size ≤ sizeLine ∧ k = ((y.size : Int) != 0)
  | .ref p => (∃ xs, SqL K H p xs ∧ k = !xs.isEmpty) ∨ (∃ xs, SqT K H p xs ∧ k = !xs.isEmpty) ∨ ∃ kvs, H p = some (.dK kvs) ∧ k = !kvs.isEmpty
  | _ => False
theorem isEmpty_kv {κ : Type} {kvs : List (κ × V)} {vs : List (κ × Value)} (r : KV kvs vs) : (!vs.isEmpty) = !kvs.isEmpty := by
  cases r <;> rfl
theorem isEmpty_of {xs : List V} {its : List Value} (r : Vals xs its) : (!its.toArray.isEmpty) = !xs.isEmpty := by
  cases r <;> simp
theorem line63 : (sizeLine : Nat) < 2 ^ 63 := by rw [sizeLine_eq]; decide
theorem tru_ok : TruR X (fun x H Q => ∃ k, TruV X.K x H k ∧ Q k H) := by
  intro pins s σ H x v Q I rx h
  obtain ⟨k, e, q⟩ := h
  have hl := line63
  have hs : sizeLine = 16777216 := sizeLine_eq
  cases x with
  | non =>
    cases rx
    have e' : k = false := e
    subst e'
    exact truthy_none ⟨H, I, q⟩
  | bl b =>
    cases rx
    have e' : k = b := e
    subst e'
    exact wpAny_truthy_bool ⟨H, I, q⟩
  | int i =>
    obtain ⟨t, rfl⟩ := rx
    have e' : k = (i != 0) := e
    subst e'
    exact PySem.P.truthy_int ⟨H, I, q⟩
  | str y =>
    obtain ⟨t, rfl⟩ := rx
    obtain ⟨hy, e'⟩ : y.length ≤ sizeLine ∧ k = ((y.length : Int) != 0) := e
    subst e'
    exact PySem.P.truthy_str (by omega) ⟨H, I.tok _, q⟩
  | byt y =>
    obtain ⟨t, rfl⟩ := rx
    obtain ⟨hy, e'⟩ : y.size ≤ sizeLine ∧ k = ((y.size : Int) != 0) := e
    subst e'
    exact PySem.W.truthy_bytes (by omega) ⟨H, I.tok _, q⟩
  | ref p =>
    cases rx
    have e' : (∃ xs, SqL X.K H p xs ∧ k = !xs.isEmpty) ∨ (∃ xs, SqT X.K H p xs ∧ k = !xs.isEmpty) ∨ ∃ kvs, H p = some (.dK kvs) ∧ k = !kvs.isEmpty := e
    rcases e' with ⟨xs, hx, e'⟩ | ⟨xs, hx, e'⟩ | ⟨kvs, hx, e'⟩
    · subst e'
      obtain ⟨its, r, pl, hz⟩ := I.list hx
      have hlen := r.length
      exact wpAny_truthy_list pl.isList (by simp only [List.size_toArray]; omega) ⟨H, I.tok _, by rw [isEmpty_of r]; exact q⟩
    · subst e'
      obtain ⟨its, r, pl, hz⟩ := I.tuple hx
      have hlen := r.length
      exact truthy_tuple pl (by simp only [List.size_toArray]; omega) ⟨H, I.tok _, by rw [isEmpty_of r]; exact q⟩
    · subst e'
      obtain ⟨hz, hS, vs, r, m⟩ : kvs.length ≤ sizeLine ∧ (p == sysModules) = false ∧ ∃ vs, KV kvs vs ∧ s.heap.DictOf (mixKind X.prog X.w) p vs := I.hok p _ hx
      have hlen : kvs.length = vs.length := Paired.length r
      exact wpAny_truthy_dict hS m (by omega) ⟨H, I.tok _, by rw [isEmpty_kv r]; exact q⟩
  | _ => exact (show False from e).elim
theorem pt_truth (ha : PE X a ta) (he : ∀ whole, isTrue a X.env whole = (do let v ← whole; standAt a.pos; holding [v] (truthy v))) :
    PT X a (fun σ H Q => ta σ H fun x H' => ∃ k, TruV X.K x H' k ∧ Q k H') := by
  intro pins s σ H Q I h
  exact isTrue_plain (thn (ha pins s σ H _ I h) fun v s1 ⟨x, H1, I1, r1, q1⟩ => tru_ok pins s1 σ H1 x v Q I1 r1 q1) (he _)
theorem op_add_str : OpR X (binaryOp .Add) (fun x y H Q => ∃ i j, x = .str i ∧ y = .str j ∧ i.length + j.length ≤ sizeLine ∧ Q (.str (i ++ j)) H) := by
  intro pins s σ H x y v u Q I rx ry h
  obtain ⟨i, j, rfl, rfl, hz, q⟩ := h
  obtain ⟨t, rfl⟩ := rx
  obtain ⟨t', rfl⟩ := ry
  exact add_str (fun t' tk => ⟨.str (i ++ j), H, I.tok _, ⟨_, rfl⟩, q⟩) hz
theorem vals1 {x : V} {us : List Value} (r : Vals [x] us) : ∃ u, us = [u] ∧ RelV x u := by
  cases r with
  | cons r1 r2 => cases r2; exact ⟨_, rfl, r1⟩
theorem vals2 {x y : V} {us : List Value} (r : Vals [x, y] us) : ∃ u w', us = [u, w'] ∧ RelV x u ∧ RelV y w' := by
  cases r with
  | cons r1 r2 =>
    cases r2 with
    | cons r3 r4 => cases r4; exact ⟨_, _, rfl, r1, r3⟩
theorem call_abs : CallR X (.builtin "abs") (fun xs H Q => ∃ i, xs = [.int i] ∧ Q (.int (if i < 0 then -i else i)) H) := by
  intro pins s σ H xs us Q I r h
  obtain ⟨i, rfl, q⟩ := h
  obtain ⟨u, rfl, t, rfl⟩ := vals1 r
  exact call_abs_int fun u tk => ⟨.int (if i < 0 then -i else i), H, I.tok _, ⟨_, rfl⟩, q⟩
theorem call_min2 (hc : X.calm = true) : CallR X (.builtin "min") (fun xs H Q => ∃ i j, xs = [.int i, .int j] ∧ Q (.int (if j < i then j else i)) H) := by
  intro pins s σ H xs us Q I r h
  obtain ⟨i, j, rfl, q⟩ := h
  obtain ⟨u, w', rfl, ⟨t, rfl⟩, ⟨t', rfl⟩⟩ := vals2 r
  refine min_two_ints (I.ok.hd hc) fun h' tk k => ⟨_, H, I.kept k, ?_, q⟩
  by_cases hj : j < i
  · rw [if_pos hj, if_pos hj]; exact ⟨_, rfl⟩
  · rw [if_neg hj, if_neg hj]; exact ⟨_, rfl⟩
theorem call_int1 : CallR X (.type "int") (fun xs H Q => (∃ i, xs = [.int i] ∧ Q (.int i) H) ∨ ∃ k, xs = [.bl k] ∧ Q (.int (if k then 1 else 0)) H) := by
  intro pins s σ H xs us Q I r h
  rcases h with ⟨i, rfl, q⟩ | ⟨k, rfl, q⟩
  · obtain ⟨u, rfl, t, rfl⟩ := vals1 r
    exact call_int_int ⟨.int i, H, I, ⟨_, rfl⟩, q⟩
  · obtain ⟨u, rfl, r1⟩ := vals1 r
    cases r1
    exact call_int_bool ⟨.int (if k then 1 else 0), H, I.tok _, ⟨_, rfl⟩, q⟩
end
end L2
namespace L2
open PySem PySem.Spec PyProof.Rows
structure ObjM (h : Heap) (x dx C : Addr) (mA : Str → Option Value) : Prop where
  obj : h.get? x = some (PySem.W.instObj C dx)
  ns : h.Ns1 dx mA
  ne : dx ≠ x
theorem lookIn_ns {h : Heap} {dx : Addr} {mA : Str → Option Value} (n : h.Ns1 dx mA) : ∃ od, h.get? dx = some od ∧ ∀ name, PySem.W.lookIn name od = some (mA name) := by
  obtain ⟨o, es, ep, ho, hd, hk, _, hm⟩ := n
  refine ⟨o, ho, fun name => ?_⟩
  have e := hm name
  unfold nsFind findBy at e
  rw [← Array.find?_toList] at e
  unfold PySem.W.lookIn
  rw [hd]
  dsimp only
  split
  · rename_i y q
    rw [q] at e
    exact congrArg some e
  · rename_i q
    rw [q] at e
    have a : es.toList.any (·.refKey) = false := by
      rw [List.any_eq_false]
      intro y hy
      obtain ⟨z, t, hkey⟩ := hk y (Array.mem_toList_iff.mp hy)
      simp [DictEntry.refKey, hkey]
    have a' : ¬ es.toList.any (·.refKey) = true := by rw [a]; exact Bool.false_ne_true
    rw [if_neg a']
    exact congrArg some e
theorem ObjM.look {h : Heap} {x dx C : Addr} {mA : Str → Option Value} (I : ObjM h x dx C mA) : ∃ od, PySem.W.InstAt h x (PySem.W.instObj C dx) C (some od) ∧ ∀ name, PySem.W.lookIn name od = some (mA name) :=
  let ⟨od, ho, hl⟩ := lookIn_ns I.ns
  ⟨od, ⟨I.obj, rfl, rfl, ho⟩, hl⟩
section
variable {prog : Program} {w : World} {A : Around} {E : Value → Shared → Prop} {s : Shared} {K : PySem.W.Frag} {x dx C f : Addr} {mA : Str → Option Value} {name : Str} {v : Value}
end
noncomputable def putF (f : Str) (v : V) : List (Str × V) → List (Str × V)
  | [] => [(f, v)]
  | (g, x) :: r => if g = f then (g, v) :: r else (g, x) :: putF f v r
theorem RelO.some_of {v : V} {o : Option Value} (r : RelO (some v) o) : ∃ u, o = some u ∧ RelV v u := by
  cases o with
  | none => exact (show False from r).elim
  | some u => exact ⟨u, rfl, r⟩
theorem handed_of {v : V} {u : Value} (r : RelV v u) : PySem.W.handedIn u = true := by
  cases v with
  | non => cases (show u = Value.none from r); rfl
  | bl b => cases (show u = Value.bool b from r); rfl
  | int i => obtain ⟨t, e⟩ := (show ∃ t, u = Value.int i t from r); cases e; rfl
  | str x => obtain ⟨t, e⟩ := (show ∃ t, u = Value.str x t from r); cases e; rfl
  | byt b => obtain ⟨t, e⟩ := (show ∃ t, u = Value.bytes b t from r); cases e; rfl
  | flt b => obtain ⟨t, e⟩ := (show ∃ t, u = Value.float b t from r); cases e; rfl
  | ref a => cases (show u = Value.ref a from r); rfl
  | ty n => cases (show u = Value.type n from r); rfl
section
variable {P : Program} {w : World} {H H' : Hp} {h h' : Heap} {a C dx : Addr} {fs fs' : List (Str × V)}
theorem ins_get (hok : HOk P w H h) (e : H a = some (.ins C dx fs)) : ∃ mA, ObjM h a dx C mA ∧ (∀ f, RelO (fs.lookup f) (mA f)) ∧ PySem.Within mA (fs.map (·.1)) ∧ fs.length ≤ 1000 ∧ H dx = some (.own a) := by
  obtain ⟨d, z, ne, ob, mA, n, r, q⟩ := (show ObjOk P w H h a (.ins C dx fs) from hok a _ e)
  exact ⟨mA, ⟨ob, n, ne⟩, r, q, z, d⟩
end
structure Cls (K : PySem.W.Frag) (C : Addr) : Prop where
  pg : PySem.W.plainGet K C Str.empty = true
  hd : PySem.W.hasDictIn K C = true
  po : PySem.W.plainOver K C = true
  sa : PySem.W.findIn K (.ref C) "__setattr__" = some (some (.builtin "object.__setattr__"))
theorem Cls.get {K : PySem.W.Frag} {C : Addr} (c : Cls K C) (f : Str) : PySem.W.plainGet K C f = true := c.pg
structure Con (K : PySem.W.Frag) (C : Addr) (f : Str) (v : V) (u : Value) : Prop where
  at_ : PySem.W.findIn K (.ref C) f = some (some u)
  rel : RelV v u
  get : PySem.W.specialIn K u "__get__" = some none
  cp : PySem.W.copiedNames.contains f = false
structure Meth (K : PySem.W.Frag) (C : Addr) (m : Str) (f : Addr) : Prop where
  at_ : PySem.W.findIn K (.ref C) m = some (some (.ref f))
  fn : PySem.W.isFn K (.ref f) = true
  kp : PySem.W.keepIn K (.ref f) = true
section
variable {X : Cx} {pins : List (Addr × Obj)} {σ : St} {H : Hp} {s : Shared} {a C dx : Addr} {fs : List (Str × V)} {f : Str} {v : V} {A : Around} {E : Value → Shared → Prop}
theorem Inv.made (I : Inv X pins σ H s) : Inv X pins σ (upd (upd H s.heap.objs.size (.own (s.heap.objs.size + 1))) (s.heap.objs.size + 1) (.ins C s.heap.objs.size []))
    { s with heap := (s.heap.push PySem.W.emptyDict).push (PySem.W.instObj C s.heap.objs.size) } := by
  have e1 : (s.heap.push PySem.W.emptyDict).get? s.heap.objs.size = some PySem.W.emptyDict := Heap.get?_push_size s.heap rfl
  have e2 : ((s.heap.push PySem.W.emptyDict).push (PySem.W.instObj C s.heap.objs.size)).get? (s.heap.objs.size + 1) = some (PySem.W.instObj C s.heap.objs.size) := by
    have := Heap.get?_push_size (s.heap.push PySem.W.emptyDict) (o := PySem.W.instObj C s.heap.objs.size) rfl
    rwa [Heap.size_push] at this
  have e3 : (s.heap.push PySem.W.emptyDict).Ns s.heap.objs.size (fun _ => none) := ⟨PySem.W.emptyDict, #[], _, e1, rfl, (fun e he => absurd he (by simp)), fun _ => rfl⟩
  have I1 := I.laid (a := s.heap.objs.size) (o := .own (s.heap.objs.size + 1)) (h' := s.heap.push PySem.W.emptyDict) (t' := s.toks) (fun b u q => Heap.get?_push_of_some _ q) (Nat.le_refl _) ⟨_, e1⟩
  refine I1.laid (a := s.heap.objs.size + 1) (o := .ins C s.heap.objs.size []) (t' := s.toks) (fun b u q => Heap.get?_push_of_some _ q) (Nat.le_of_eq (Heap.size_push _ _)) ?_
  have ne : s.heap.objs.size ≠ s.heap.objs.size + 1 := Nat.ne_of_lt (Nat.lt_succ_self _)
  refine ⟨by rw [upd_ne ne, upd_same], Nat.zero_le _, ne, e2, fun _ => none, (Heap.Ns1.of_empty e3).at fun o q => Heap.get?_push_of_some _ q, fun _ => True.intro, fun y hy => absurd rfl hy⟩
theorem attr_of {prog : Program} {w : World} {env : Env} {e : Expr} {f : Str} {pos : Pos} {s : Shared} {Q : Value → Shared → Prop} (hb : attributeBase e f env (eval e env) = eval e env)
    (h : wpAny (model prog w) A (eval e env) (fun o s₁ => wpAny (model prog w) A (getAttr o f true) Q E s₁) E s) : wpAny (model prog w) A (eval (.Attribute e f pos) env) Q E s :=
  Attribute_any_ h (by rw [arm_eval_Attribute, hb])
end
section
variable {X : Cx} {o e value : Expr} {f : Str} {pos pos' tpos : Pos} {ta tv : TE}
end
section
variable {X : Cx} {pins : List (Addr × Obj)} {σ : St} {H : Hp} {s : Shared} {A : Around} {E : Value → Shared → Prop} {Q : Value → Shared → Prop} {c : Value} {b : Bool}
inductive TyOf (K : PySem.W.Frag) (H : Hp) : V → Value → Prop where
  | non : TyOf K H .non (.type "NoneType")
  | bl (x : Bool) : TyOf K H (.bl x) (.type "bool")
  | int (i : Int) : TyOf K H (.int i) (.type "int")
  | str (x : Str) : TyOf K H (.str x) (.type "str")
  | flt (x : UInt64) : TyOf K H (.flt x) (.type "float")
  | lst {a : Addr} {xs : List V} (e : H a = some (.lst xs)) : TyOf K H (.ref a) (.type "list")
  | frz {a : Addr} {o : Obj} {xs : List V} (e : H a = some (.frz o (.lst xs))) : TyOf K H (.ref a) (.type "list")
  | tup {a : Addr} {xs : List V} (e : H a = some (.tup xs)) : TyOf K H (.ref a) (.type "tuple")
  | dK {a : Addr} {kvs : List (Key × V)} (e : H a = some (.dK kvs)) : TyOf K H (.ref a) (.type "dict")
  | dT {a : Addr} {kvs : List (List Key × V)} (e : H a = some (.dT kvs)) : TyOf K H (.ref a) (.type "dict")
  | ins {a C dx : Addr} {fs : List (Str × V)} (e : H a = some (.ins C dx fs)) (cl : Cls K C) (ha : PySem.W.findIn K (.ref C) "__class__" = some (some (.builtin "object.__class__")))
      (hn : PySem.W.specialIn K (.builtin "object.__class__") "__get__" = some (some (.builtin "getset_descriptor.__get__"))) (htk : PySem.W.takesIn K (.builtin "object.__class__") = some true)
      (hm : PySem.W.mroIn K C (.type "object") = some true) : TyOf K H (.ref a) (.ref C)
theorem isinst_ok {x : V} {u t : Value} (I : Inv X pins σ H s) (rx : RelV x u) (ty : TyOf X.K H x t) (e : PySem.W.kitOne X.K t c = some b) (h : ∀ tk, Q (.bool b) { s with toks := tk }) :
    wpAny (model X.prog X.w) A (call (.builtin "isinstance") [u, c]) Q E s := by
  cases ty with
  | non => cases (show u = Value.none from rx); exact PySem.W.kia_one PySem.W.kitx_none I.kIn True.intro e (fun z => nomatch z) h
  | bl y => cases (show u = Value.bool y from rx); exact PySem.W.kia_one PySem.W.kitx_bool I.kIn True.intro e (fun z => nomatch z) h
  | int i => obtain ⟨t, q⟩ := (show ∃ t, u = Value.int i t from rx); cases q; exact PySem.W.kia_one PySem.W.kitx_int I.kIn True.intro e (fun z => nomatch z) h
  | str y => obtain ⟨t, q⟩ := (show ∃ t, u = Value.str y t from rx); cases q; exact PySem.W.kia_one PySem.W.kitx_str I.kIn True.intro e (fun z => nomatch z) h
  | flt y => obtain ⟨t, q⟩ := (show ∃ t, u = Value.float y t from rx); cases q; exact PySem.W.kia_one PySem.W.kitx_float I.kIn True.intro e (fun z => nomatch z) h
  | @lst a xs ea =>
    cases (show u = Value.ref a from rx)
    obtain ⟨_, _, n, _, h1⟩ := (show ObjOk X.prog X.w H s.heap a (.lst xs) from I.hok a _ ea)
    exact PySem.W.kia_one PySem.W.kitx_list I.kIn ⟨_, h1, rfl⟩ e (fun z => nomatch z) h
  | @frz a ob xs ea =>
    cases (show u = Value.ref a from rx)
    obtain ⟨_, _, _, n, _, h1⟩ := (show ObjOk X.prog X.w H s.heap a (.frz ob (.lst xs)) from I.hok a _ ea)
    exact PySem.W.kia_one PySem.W.kitx_list I.kIn ⟨_, h1, rfl⟩ e (fun z => nomatch z) h
  | @tup a xs ea =>
    cases (show u = Value.ref a from rx)
    obtain ⟨_, _, _, p⟩ := (show ObjOk X.prog X.w H s.heap a (.tup xs) from I.hok a _ ea)
    obtain ⟨o, h1, h2, _⟩ := p
    exact PySem.W.kia_one PySem.W.kitx_tuple I.kIn ⟨o, h1, h2⟩ e (fun z => nomatch z) h
  | @dK a kvs ea =>
    cases (show u = Value.ref a from rx)
    obtain ⟨_, _, vs, _, p⟩ := (show ObjOk X.prog X.w H s.heap a (.dK kvs) from I.hok a _ ea)
    obtain ⟨o, es, ep, h1, h2, _⟩ := p
    exact PySem.W.kia_one PySem.W.kitx_dict I.kIn ⟨o, h1, h2.1⟩ e (fun z => nomatch z) h
  | @dT a kvs ea =>
    cases (show u = Value.ref a from rx)
    obtain ⟨_, _, xs, _, o, es, ep, h1, h2, _⟩ := (show ObjOk X.prog X.w H s.heap a (.dT kvs) from I.hok a _ ea)
    exact PySem.W.kia_one PySem.W.kitx_dict I.kIn ⟨o, h1, h2.1⟩ e (fun z => nomatch z) h
  | @ins a C dx fs ea cl ha hn htk hm =>
    cases (show u = Value.ref a from rx)
    obtain ⟨mA, O, _⟩ := ins_get I.hok ea
    obtain ⟨od, J, _⟩ := O.look
    exact PySem.W.kia_one (PySem.W.kitx_own (cl.get _) cl.hd ha hn htk hm) I.kIn J e (fun z => nomatch z) h
end
end L2
namespace L2
open PySem PySem.Spec PyProof.Rows
structure Room (k : Nat) (A : Around) : Prop where
  hd : A.handled = none
  dp : A.depth + 3 * k + 5 < recursionLimit
  un : A.units + 16 * k + 200 < cLine
  gd : A.guards = some []
theorem Room.mono {j k : Nat} {A : Around} (r : Room k A) (h : j ≤ k) : Room j A := ⟨r.hd, by have := r.dp; omega, by have := r.un; omega, r.gd⟩
theorem Room.deeper {k : Nat} {A : Around} (r : Room (k + 1) A) (env : Env) : Room k (A.deeper env) :=
  ⟨r.hd, by have := r.dp; show A.depth + 1 + 3 * k + 5 < _; omega, by have := r.un; show A.units + 3 + 16 * k + 200 < _; omega, r.gd⟩
theorem Room.in1 {k : Nat} {A : Around} (r : Room (k + 1) A) : Room k A.in1 :=
  ⟨r.hd, by have := r.dp; show A.depth + 3 * k + 5 < _; omega, by have := r.un; show A.units + 1 + 16 * k + 200 < _; omega, r.gd⟩
theorem make_depth {A : Around} {C : Addr} {us : List Value} {kw : List (Str × Value)} : (A.under (.builtin "type.__call__" ⟨.ref C :: us, kw⟩)).depth = A.depth + 1 := by
  first | rfl | simp [Around.under, Code.weight, Code.isCreation, Code.isGuard, Code.isCaller, Code.frames, Code.isFrame, guardIds]
theorem make_units {A : Around} {C : Addr} {us : List Value} {kw : List (Str × Value)} : (A.under (.builtin "type.__call__" ⟨.ref C :: us, kw⟩)).units = A.units + 1 := by
  first | rfl | simp [Around.under, Code.cUnits, Code.frames, Code.isFrame]
theorem Room.make {k : Nat} {A : Around} (r : Room (k + 1) A) (C : Addr) (us : List Value) (kw : List (Str × Value)) : Room k (A.under (.builtin "type.__call__" ⟨.ref C :: us, kw⟩)) :=
  ⟨r.hd, by have := r.dp; rw [make_depth]; omega, by have := r.un; rw [make_units]; omega, by first | exact r.gd | (simpa [Around.under, Code.isGuard, guardIds] using r.gd)⟩
theorem Room.depth {k : Nat} {A : Around} (r : Room k A) : A.depth < recursionLimit := by have := r.dp; omega
theorem Room.units {k : Nat} {A : Around} (r : Room k A) : A.units + 64 < cLine := by have := r.un; omega
noncomputable def tNil : TA := fun _ H Q => Q [] H
noncomputable def tCons (ta : TE) (tr : TA) : TA := fun σ H Q => ta σ H fun x H1 => tr σ H1 fun xs H2 => Q (x :: xs) H2
section
variable {X : Cx} {e : Expr} {es : List Expr} {te : TE} {t : TA} {pos : Pos}
theorem pa_nil : PA X [] tNil := fun _ _ _ _ H Q I h => Calls.spliced_nil ⟨[], H, I, .nil, h⟩
theorem pa_cons (ha : PE X e te) (hr : PA X es t) (hs : starEach (e :: es) X.env = (false, eval e X.env) :: starEach es X.env := by rfl) : PA X (e :: es) (tCons te t) := by
  intro pos pins s σ H Q I h
  rw [hs]
  show wpAny _ _ (spliced ((false, eval e X.env) :: backTo pos (starEach es X.env))) _ _ s
  refine Calls.spliced_cons (thn (ha pins s σ H _ I h) fun u s1 ⟨x, H1, I1, r1, q1⟩ => ?_)
  exact thn (hr pos pins s1 σ H1 _ I1 q1) fun us s2 ⟨xs, H2, I2, r2, q2⟩ => ⟨x :: xs, H2, I2, .cons r1 r2, q2⟩
noncomputable def tTup (t : TA) : TE := fun σ H Q => t σ H fun xs H1 => xs.length ≤ sizeLine ∧ ∀ p, H1 p = none → Q (.ref p) (upd H1 p (.tup xs))
noncomputable def tLst (t : TA) : TE := fun σ H Q => t σ H fun xs H1 => xs.length ≤ sizeLine ∧ ∀ p, H1 p = none → Q (.ref p) (upd H1 p (.lst xs))
theorem pe_tup {x1} (h : PA X es t) : PE X (.Tuple es x1 pos) (tTup t) := by
  intro pins s σ H Q I hq
  refine wpAny_Tuple_spliced (thn (h pos pins s σ H _ I hq) fun us s1 ⟨xs, H1, I1, r, z, q⟩ => ⟨by rw [← r.length]; exact z, ?_⟩)
  have hf : H1 s1.heap.objs.size = none := I1.hok.fresh (Nat.le_refl _)
  refine ⟨.ref s1.heap.objs.size, upd H1 s1.heap.objs.size (.tup xs), I1.laid (t' := s1.toks) (fun b u e => Heap.get?_push_of_some _ e) (Nat.le_refl _) ?_, rfl, q _ hf⟩
  exact ⟨z, us, r, ⟨_, Heap.get?_push_size _ rfl, rfl, _, rfl⟩⟩
theorem pe_lst (h : PA X es t) : PE X (.List es pos) (tLst t) := by
  intro pins s σ H Q I hq
  refine wpAny_List_spliced (thn (h pos pins s σ H _ I hq) fun us s1 ⟨xs, H1, I1, r, z, q⟩ => ⟨by rw [← r.length]; exact z, ?_⟩)
  have hf : H1 s1.heap.objs.size = none := I1.hok.fresh (Nat.le_refl _)
  refine ⟨.ref s1.heap.objs.size, upd H1 s1.heap.objs.size (.lst xs), I1.laid (t' := s1.toks) (fun b u e => Heap.get?_push_of_some _ e) (Nat.le_refl _) ?_, rfl, q _ hf⟩
  exact ⟨z, us, 0, r, Heap.get?_push_size _ rfl⟩
end
noncomputable abbrev Sp := List V → Hp → VK → XK → Prop
noncomputable abbrev CXT := List Env → Hp → Shared → XK → Value → Shared → Prop
structure Env0 (P : Program) (w : World) (K : PySem.W.Frag) (mg : Str → Option Value) (base : Heap) (A : Around) (outer : List Env) (s : Shared) (H : Hp) : Prop where
  frames : A.frames = some outer
  mod : Mod K mg base
  bs : ∀ b o, base.get? b = some o → s.heap.get? b = some o ∧ H b = none
  bsz : base.objs.size ≤ s.heap.objs.size
  funs : s.heap.FunFrames base outer
  frf : ∀ b ∈ frs outer, H b = none
  hok : HOk P w H s.heap
  bare : AllBare s.gens
noncomputable def CE (outer : List Env) (P : Program) (w : World) (H : Hp) (s : Shared) (Q : VK) (u : Value) (s' : Shared) : Prop :=
  ∃ v H', s'.os = s.os ∧ AllBare s'.gens ∧ Un (frs outer) [] H H' s.heap s'.heap ∧ HOk P w H' s'.heap ∧ RelV v u ∧ Q v H'
noncomputable def CR (CX : CXT) (outer : List Env) (P : Program) (w : World) (H : Hp) (s : Shared) (Q : VK) (E : XK) (r : Result) (s' : Shared) : Prop :=
  match r with
  | .ok (.ret u) => CE outer P w H s Q u s'
  | .ok _ => False
  | .error e => CX outer H s E e s'
structure FnOk (P : Program) (w : World) (K : PySem.W.Frag) (mg : Str → Option Value) (base : Heap) (CX : CXT) (k : Nat) (f : Addr) (fd : FuncData) (ps : List Str) (sp : Sp) : Prop where
  len : ∀ vs H Q E, sp vs H Q E → vs.length = ps.length
  run : ∀ (A : Around) (outer : List Env) (s : Shared) (H : Hp) (args : Args) (us : List Value) (vs : List V) (Q : VK) (E : XK), Room k A → Env0 P w K mg base A outer s H → BindsTo s fd args (ps.zip us) → Vals vs us → sp vs H Q E →
    codeAny (model P w) A (.call (.ref f) args) (CR CX outer P w H s Q E) s
theorem FnOk.mono {P : Program} {w : World} {K : PySem.W.Frag} {mg : Str → Option Value} {base : Heap} {CX : CXT} {j k : Nat} {f : Addr} {fd : FuncData} {ps : List Str} {sp : Sp} (F : FnOk P w K mg base CX j f fd ps sp) (h : j ≤ k) :
    FnOk P w K mg base CX k f fd ps sp := ⟨F.len, fun A outer s H args us vs Q E hr => F.run A outer s H args us vs Q E (hr.mono h)⟩
theorem FnOk.imp {P : Program} {w : World} {K : PySem.W.Frag} {mg : Str → Option Value} {base : Heap} {CX : CXT} {k : Nat} {f : Addr} {fd : FuncData} {ps : List Str} {sp sp' : Sp} (F : FnOk P w K mg base CX k f fd ps sp)
    (h : ∀ vs H Q E, sp' vs H Q E → sp vs H Q E) : FnOk P w K mg base CX k f fd ps sp' :=
  ⟨fun vs H Q E q => F.len vs H Q E (h _ _ _ _ q), fun A outer s H args us vs Q E hr he hb hv hs => F.run A outer s H args us vs Q E hr he hb hv (h _ _ _ _ hs)⟩
theorem Env0.make {P : Program} {w : World} {K : PySem.W.Frag} {mg : Str → Option Value} {base : Heap} {A : Around} {outer : List Env} {s : Shared} {H : Hp} (e : Env0 P w K mg base A outer s H) (C : Addr) (us : List Value) (kw : List (Str × Value)) :
    Env0 P w K mg base (A.under (.builtin "type.__call__" ⟨.ref C :: us, kw⟩)) outer s H := ⟨by first | exact e.frames | (simpa [Around.under, Code.envs, Code.isFrame, pushEnvs] using e.frames), e.mod, e.bs, e.bsz, e.funs, e.frf, e.hok, e.bare⟩
theorem Env0.in1 {P : Program} {w : World} {K : PySem.W.Frag} {mg : Str → Option Value} {base : Heap} {A : Around} {outer : List Env} {s : Shared} {H : Hp} (e : Env0 P w K mg base A outer s H) :
    Env0 P w K mg base A.in1 outer s H := ⟨e.frames, e.mod, e.bs, e.bsz, e.funs, e.frf, e.hok, e.bare⟩
section
variable {X : Cx} {pins : List (Addr × Obj)} {σ : St} {H : Hp} {s s' : Shared}
theorem Inv.env0 (I : Inv X pins σ H s) : Env0 X.prog X.w X.K X.mg X.base X.A X.stack s H :=
  ⟨I.ok.frames, I.ok.mod, I.bs, Nat.le_trans I.ok.bsz I.sz, I.stack, I.stkFree, I.hok, I.bare⟩
theorem Inv.after {Q : VK} {u : Value} (I : Inv X pins σ H s) (h : CE X.stack X.prog X.w H s Q u s') : EP X pins σ Q u s' := by
  obtain ⟨v, H', os, bare, un, hok, r, q⟩ := h
  obtain ⟨hh, g, d, t, os'⟩ := s'
  obtain rfl : os' = s.os := os
  exact ⟨v, H', I.call (h' := hh) (g' := g) (d' := d) (t' := t) (ch := []) un hok bare (fun b z => absurd z (by simp)), r, q⟩
end
noncomputable def tCall (sp : Sp) (dvs : List V) (E : XK) (t : TA) : TE := fun σ H Q => t σ H fun vs H1 => sp (vs ++ dvs) H1 Q E
noncomputable def Binds (K : PySem.W.Frag) (fd : FuncData) (ps : List Str) (ds : List Value) : Prop :=
  ∀ (s : Shared) (us : List Value), K.In s.heap → (us ++ ds).length = ps.length → BindsTo s fd ⟨us, []⟩ (ps.zip (us ++ ds))
theorem Binds.all {K : PySem.W.Frag} {fd : FuncData} {ps : List Str} (h : ∀ us : List Value, us.length = ps.length → bindArgs fd ⟨us, []⟩ = pure (ps.zip us)) : Binds K fd ps [] := fun s us _ hl => by
  rw [List.append_nil] at hl ⊢
  exact .of_eq (h us hl)
noncomputable def Passes (CX : CXT) (X : Cx) (E : XK) : Prop := ∀ (pins : List (Addr × Obj)) (σ : St) (H : Hp) (s : Shared) (e : Value) (s' : Shared), Inv X pins σ H s → CX X.stack H s E e s' → X.xe e s'
section
variable {X : Cx} {CX : CXT} {k : Nat} {f C : Addr} {fd : FuncData} {ps : List Str} {sp : Sp} {dvs : List V} {ds : List Value} {E : XK} {x m : Str} {p pos apos : Pos} {e o : Expr} {es : List Expr} {ta : TE} {t : TA}
theorem run_fn {pins : List (Addr × Obj)} {σ : St} {H : Hp} {s : Shared} {Q : VK} {us : List Value} {vs : List V} (F : FnOk X.prog X.w X.K X.mg X.base CX k f fd ps sp) (hr : Room k X.A) (hb : Binds X.K fd ps ds) (hd : Vals dvs ds) (hx : Passes CX X E)
    (I : Inv X pins σ H s) (r : Vals vs us) (h : sp (vs ++ dvs) H Q E) : wpAny (model X.prog X.w) X.A (call (.ref f) us) (EP X pins σ Q) X.xe s := by
  have r2 : Vals (vs ++ dvs) (us ++ ds) := r.append hd
  have hl : (us ++ ds).length = ps.length := by rw [← r2.length]; exact F.len _ _ _ _ h
  refine wpAny_call (codeAny_mono (F.run X.A X.stack s H ⟨us, []⟩ (us ++ ds) (vs ++ dvs) Q E hr I.env0 (hb s us I.kIn hl) r2 h) fun r s' hq => ?_)
  cases r with
  | error e => exact hx pins σ H s e s' I hq
  | ok fl =>
    cases fl with
    | ret u => exact I.after hq
    | next => exact False.elim hq
    | brk => exact False.elim hq
    | cont => exact False.elim hq
theorem pe_call (F : FnOk X.prog X.w X.K X.mg X.base CX k f fd ps sp) (hr : Room k X.A) (hg : Gl X x) (hm : X.mg x = some (.ref f)) (hk : PySem.W.keepIn X.K (.ref f) = true) (hb : Binds X.K fd ps ds) (hd : Vals dvs ds) (hx : Passes CX X E)
    (ha : PA X (e :: es) t) (hdb : (x == ("__debug__" : Str)) = false := by decide) (he : starEach (e :: es) X.env = (false, eval e X.env) :: starEach es X.env := by rfl) (hpl : (backTo pos (starEach es X.env)).any (·.1) = false := by rfl) :
    PE X (.Call (.Name x p) (e :: es) [] pos) (tCall sp dvs E t) := by
  intro pins s σ H Q I h
  refine wpAny_Call_Name_kw (ld_glob I hg hm ?_ hdb)
  refine PySem.W.callWith_K (h₀ := X.base) I.ok.mod.kin hk (thn (ha pos pins s σ H _ I h) fun us s1 ⟨vs, H1, I1, r, q⟩ => ⟨I1.kIn, ?_⟩) he hpl
  exact run_fn F hr hb hd hx I1 r q
theorem pe_call0 (F : FnOk X.prog X.w X.K X.mg X.base CX k f fd ps sp) (hr : Room k X.A) (hg : Gl X x) (hm : X.mg x = some (.ref f)) (hk : PySem.W.keepIn X.K (.ref f) = true) (hb : Binds X.K fd ps ds) (hd : Vals dvs ds) (hx : Passes CX X E)
    (hdb : (x == ("__debug__" : Str)) = false := by decide) : PE X (.Call (.Name x p) [] [] pos) (tCall sp dvs E tNil) := by
  intro pins s σ H Q I h
  refine wpAny_Call_Name_kw (ld_glob I hg hm ?_ hdb)
  exact PySem.W.callWith_K0 I.kIn hk (run_fn (us := []) F hr hb hd hx I .nil h)
structure Mk (K : PySem.W.Frag) (C f : Addr) : Prop where
  makes : PySem.W.makesIn K C = true
  init : PySem.W.findIn K (.ref C) "__init__" = some (some (.ref f))
  fn : PySem.W.isFn K (.ref f) = true
  kp : PySem.W.keepIn K (.ref C) = true
end
section
variable {X : Cx} {CX : CXT} {k : Nat} {f C : Addr} {fd : FuncData} {ps ks : List Str} {sp : Sp} {E : XK} {x m : Str} {p pos apos kpos : Pos} {e o : Expr} {es : List Expr} {kws : List Keyword} {te ta : TE} {t tk : TA} {nm : Option Str}
structure KBinds (K : PySem.W.Frag) (fd : FuncData) (ps ks : List Str) (g : List Value → List Value → List Value) (gV : List V → List V → List V) : Prop where
  to : ∀ (s : Shared) (us ws : List Value), K.In s.heap → (g us ws).length = ps.length → BindsTo s fd ⟨us, ks.zip ws⟩ (ps.zip (g us ws))
  rel : ∀ {vs : List V} {us : List Value} {zs : List V} {ws : List Value}, Vals vs us → Vals zs ws → Vals (gV vs zs) (g us ws)
variable {g : List Value → List Value → List Value} {gV : List V → List V → List V}
end
structure FnScope (N P : List Str) (sc : Scope) : Prop where
  kind : sc.kind = .function
  co : sc.isCoroutine = false
  gen : sc.isGenerator = false
  nd : N.Nodup
  pre : N.take P.length = P
  par : ∀ x ∈ P, sc.names.lookup x = some .local ∨ sc.names.lookup x = some .cell
  nofree : ∀ y ∈ sc.names, y.2 ≠ .free
theorem bindL_out {kindOf : Str → Option NameKind} {x : Str} : ∀ {binds : List (Str × Value)} {m : Str → Option Value}, (∀ v, (x, v) ∉ binds) → bindL kindOf binds m x = m x
  | [], _, _ => rfl
  | (n, v) :: r, m, h => by
    unfold bindL
    rw [bindL_out fun w hw => h w (List.mem_cons_of_mem _ hw)]
    split
    · have : x ≠ n := by rintro rfl; exact h v List.mem_cons_self
      simp [this]
    · rfl
theorem bindC_out {kindOf : Str → Option NameKind} {x : Str} : ∀ {binds : List (Str × Value)} {m : Str → Option Value}, (∀ v, (x, v) ∉ binds) → bindC kindOf binds m x = m x
  | [], _, _ => rfl
  | (n, v) :: r, m, h => by
    unfold bindC
    rw [bindC_out fun w hw => h w (List.mem_cons_of_mem _ hw)]
    split
    · rfl
    · have : x ≠ n := by rintro rfl; exact h v List.mem_cons_self
      simp [this]
theorem bindL_get {kindOf : Str → Option NameKind} {x : Str} {v : Value} : ∀ {P : List Str} {vs : List Value} {i : Nat} {m : Str → Option Value}, P.Nodup → P[i]? = some x → vs[i]? = some v → kindOf x = some .local →
    bindL kindOf (P.zip vs) m x = some v
  | [], _, _, _, _, h, _, _ => by simp at h
  | _ :: _, [], _, _, _, _, h, _ => by simp at h
  | p :: P, w :: vs, 0, m, nd, h1, h2, hk => by
    simp at h1 h2; subst h1; subst h2
    show bindL kindOf ((p, w) :: P.zip vs) m p = _
    unfold bindL
    rw [bindL_out fun v hv => (List.nodup_cons.mp nd).1 (List.of_mem_zip hv).1, if_pos hk]
    simp
  | p :: P, w :: vs, i + 1, m, nd, h1, h2, hk => by
    show bindL kindOf ((p, w) :: P.zip vs) m x = _
    unfold bindL
    exact bindL_get (i := i) (List.nodup_cons.mp nd).2 (by simpa using h1) (by simpa using h2) hk
theorem bindC_get {kindOf : Str → Option NameKind} {x : Str} {v : Value} : ∀ {P : List Str} {vs : List Value} {i : Nat} {m : Str → Option Value}, P.Nodup → P[i]? = some x → vs[i]? = some v → kindOf x ≠ some .local →
    bindC kindOf (P.zip vs) m x = some v
  | [], _, _, _, _, h, _, _ => by simp at h
  | _ :: _, [], _, _, _, _, h, _ => by simp at h
  | p :: P, w :: vs, 0, m, nd, h1, h2, hk => by
    simp at h1 h2; subst h1; subst h2
    show bindC kindOf ((p, w) :: P.zip vs) m p = _
    unfold bindC
    rw [bindC_out fun v hv => (List.nodup_cons.mp nd).1 (List.of_mem_zip hv).1, if_neg hk]
    simp
  | p :: P, w :: vs, i + 1, m, nd, h1, h2, hk => by
    show bindC kindOf ((p, w) :: P.zip vs) m x = _
    unfold bindC
    exact bindC_get (i := i) (List.nodup_cons.mp nd).2 (by simpa using h1) (by simpa using h2) hk
noncomputable def start (N : List Str) (vs : List V) : St := vs.map some ++ List.replicate (N.length - vs.length) none
noncomputable def cxOf (CX : CXT) (P : Program) (w : World) (K : PySem.W.Frag) (mg : Str → Option Value) (base : Heap) (N : List Str) (qual : Str) (scope : Scope) (f : Addr) (cd : Value) (A : Around) (outer : List Env) (s : Shared) (H : Hp) (E : XK) : Cx where
  prog := P
  w := w
  K := K
  mg := mg
  base := base
  A := A.deeper (envOfC qual scope s.heap.objs.size f cd)
  N := N
  s₀ := s
  H₀ := H
  env := envOfC qual scope s.heap.objs.size f cd
  outer := outer
  stack := envOfC qual scope s.heap.objs.size f cd :: outer
  ex := []
  calm := true
  fn := fun _ => true
  pn := []
  xe := fun e s' => wpAny (model P w) (A.deeper (envOfC qual scope s.heap.objs.size f cd)) (leaving (envOfC qual scope s.heap.objs.size f cd) e) (fun _ s'' => CX outer H s E e s'') (fun e' s'' => CX outer H s E e' s'') s'
theorem cell_has {sc : Scope} {n : Nat} {x : Str} (h : sc.names.lookup x = some .cell) : ∃ c, (cellsFrom n sc.names []).lookup x = some c := by
  have q := PySem.W.cellsFrom_some sc.names n [] (.inl h)
  exact Option.isSome_iff_exists.mp q
theorem inv_start {CX : CXT} {P : Program} {w : World} {K : PySem.W.Frag} {mg : Str → Option Value} {base : Heap} {N ps : List Str} {qual : Str} {scope : Scope} {f : Addr} {cd : Value} {A : Around} {outer : List Env} {s s1 : Shared} {H : Hp} {E : XK} {us : List Value} {vs : List V}
    (S : FnScope N ps scope) (hd : A.handled = none) (e0 : Env0 P w K mg base A outer s H) (hl : vs.length = ps.length) (r : Vals vs us)
    (x : InCallC s s.heap.objs.size (bindL (envOfC qual scope s.heap.objs.size f cd).kindOf (ps.zip us) fun _ => none) (cellsFrom (s.heap.objs.size + 1) scope.names []) (bindC (envOfC qual scope s.heap.objs.size f cd).kindOf (ps.zip us) fun _ => none) s1) :
    Inv (cxOf CX P w K mg base N qual scope f cd A outer s H E) [] (start N vs) H s1 := by
  have hpl : ps.length ≤ N.length := by have := congrArg List.length S.pre; rw [List.length_take] at this; omega
  obtain ⟨h1, tk, rfl, hk⟩ := x.done
  have noA : ∀ b : Addr, b ∉ (cxOf CX P w K mg base N qual scope f cd A outer s H E).ex := fun b z => absurd (show b ∈ ([] : List Addr) from z) (by simp)
  refine ⟨⟨e0.mod, S.kind, rfl, rfl, Nat.le_refl _, fun y z c h1 h2 => ?_, fun y hy => ?_, fun y c _ h => ?_, fun _ => hd, Around.frames_deeper e0.frames, .inr ⟨rfl, rfl⟩, fun b z => absurd z (noA b), e0.bs, e0.bsz, fun b _ _ => noA b, fun b z => absurd z (noA b), e0.funs, e0.frf⟩,
    rfl, e0.bare, Un.kept hk, ⟨_, x.toInCall.ns, fun i y v h1 h2 h3 => ?_⟩, fun y c h => ⟨_, x.cell y c h⟩, e0.hok.fresh (Nat.le_refl _), fun y c h => ?_, fun p hp => absurd (show p ∈ ([] : List (Addr × Obj)) from hp) (by simp), e0.hok.kept hk, ?_⟩
  · exact name_of_addr x.apart (PySem.mem_of_lookup h1) (PySem.mem_of_lookup h2)
  · have hy : scope.names.lookup y = some .cell ∨ scope.names.lookup y = some .free := hy
    rcases hy with hy | hy
    · exact cell_has hy
    · exact absurd rfl (S.nofree _ (PySem.mem_of_lookup hy))
  · exact Nat.le_of_lt (x.above y c (PySem.mem_of_lookup h))
  · have hi : i < vs.length := by
      unfold start at h2
      by_cases hi : i < vs.length
      · exact hi
      · rw [List.getElem?_append_right (by simpa using hi)] at h2
        rw [List.getElem?_replicate] at h2
        split at h2 <;> cases h2
    have ha : vs[i]? = some v := by
      unfold start at h2
      rw [List.getElem?_append_left (by simpa using hi), List.getElem?_map] at h2
      cases e : vs[i]? with
      | none => rw [e] at h2; cases h2
      | some a => rw [e] at h2; cases h2; rfl
    obtain ⟨u, hu, rv⟩ := r.get ha
    have hp : ps[i]? = some y := by
      rw [← S.pre, List.getElem?_take_of_lt (by omega)]; exact h1
    have ndP : ps.Nodup := by rw [← S.pre]; exact S.nd.sublist (List.take_sublist _ _)
    refine ⟨u, rv, ?_⟩
    rcases S.par y (List.mem_of_getElem? hp) with k | k
    · exact .inl ⟨k, bindL_get ndP hp hu k⟩
    · obtain ⟨c, e⟩ := cell_has (n := s.heap.objs.size + 1) k
      refine .inr ⟨.inl k, c, e, ?_⟩
      have q := x.cell y c e
      rw [bindC_get ndP hp hu (by show scope.names.lookup y ≠ _; rw [k]; decide)] at q
      exact q
  · exact e0.hok.fresh (Nat.le_of_lt (x.above y c (PySem.mem_of_lookup h)))
  · unfold start
    show _ = N.length
    rw [List.length_append, List.length_map, List.length_replicate]
    omega
theorem fn_of {CX : CXT} {P : Program} {w : World} {K : PySem.W.Frag} {mg : Str → Option Value} {base : Heap} {k : Nat} {f : Addr} {name qual : Str} {params : Arguments} {body : List Stmt} {scope : Scope} {dV kV doc pm cdv ct oc : Value} {an od : Option Addr}
    {osl : Array (Option Value)} {N ps : List Str} {sp : Sp} (lk : K.lookup f = some ⟨oc, od, .func (PySem.W.fnOf name qual params body scope dV kV doc pm an cdv ct), osl⟩) (hcd : PySem.W.codeIn K cdv qual = true) (S : FnScope N ps scope)
    (len : ∀ vs H Q E, sp vs H Q E → vs.length = ps.length)
    (hbody : ∀ (A : Around) (outer : List Env) (s : Shared) (H : Hp) (vs : List V) (Q : VK) (E : XK), Room k (A.deeper (envOfC qual scope s.heap.objs.size f cdv)) → sp vs H Q E →
      ∃ t, PSs (cxOf CX P w K mg base N qual scope f cdv A outer s H E) body t ∧ t { nx := fun _ H' => Q .non H', rt := Q } (start N vs) H) :
    FnOk P w K mg base CX (k + 1) f (PySem.W.fnOf name qual params body scope dV kV doc pm an cdv ct) ps sp := by
  refine ⟨len, fun A outer s H args us vs Q E hr e0 hb r hsp => ?_⟩
  have hl := len _ _ _ _ hsp
  have KX : K.In s.heap := e0.mod.kin.keeps fun b o e => (e0.bs b o e).1
  have lim : s.heap.NoLimit := e0.mod.nolimit.keeps fun b o e => (e0.bs b o e).1
  have hkind : ∀ y ∈ ps.zip us, scope.names.lookup y.1 = some .local ∨ (scope.names.lookup y.1 = some .cell ∧ ((cellsFrom (s.heap.objs.size + 1) scope.names []).lookup y.1).isSome = true) := fun ⟨n, v⟩ hy => by
    rcases S.par n (List.of_mem_zip hy).1 with q | q
    · exact .inl q
    · exact .inr ⟨q, PySem.W.cellsFrom_some _ _ _ (.inl q)⟩
  refine codeAny_call_function hr.depth (KX _ _ lk) rfl S.co S.gen rfl (PySem.W.codeRec_of KX hcd) (hb _ _ _ _ ?_)
  refine wpAny_newFunctionEnv_cells S.kind hkind fun env he s1 x => ?_
  subst he
  refine ⟨lim.keeps x.toInCall.keep, codeAny_func ?_⟩
  obtain ⟨t, ht, hq⟩ := hbody A outer s H vs Q E (hr.deeper _) hsp
  have I : Inv (cxOf CX P w K mg base N qual scope f cdv A outer s H E) [] (start N vs) H s1 := inv_start S hr.hd e0 hl r x
  refine wpAny_mono (ht [] s1 (start N vs) H _ I hq) (fun fl s' hs => ?_) fun e s' hs => hs
  have fin : ∀ {σ' : St} {H' : Hp} {v : V} {u : Value}, Inv (cxOf CX P w K mg base N qual scope f cdv A outer s H E) [] σ' H' s' → RelV v u → Q v H' → CE outer P w H s Q u s' :=
    fun {σ' H' v u} J rv q => ⟨v, H', J.os, J.bare, J.base, J.hok, rv, q⟩
  cases fl with
  | ret u =>
    obtain ⟨v, σ', H', J, rv, q⟩ := hs
    exact fin J rv q
  | next =>
    obtain ⟨σ', H', J, q⟩ := hs
    exact fin (v := V.non) (u := Value.none) J rfl q
  | brk =>
    obtain ⟨_, _, _, q⟩ := hs
    exact False.elim q
  | cont =>
    obtain ⟨_, _, _, q⟩ := hs
    exact False.elim q
end L2
namespace L2
open PySem PySem.Spec PyProof.Rows
section
variable {X : Cx} {x : Str} {p pos : Pos} {e : Expr} {es : List Expr} {t : TA} {id T : String} {r : List V → Hp → VK → Prop}
noncomputable def tCB (r : List V → Hp → VK → Prop) (t : TA) : TE := fun σ H Q => t σ H fun vs H1 => r vs H1 Q
theorem pe_callB (hc : CallR X (.builtin id) r) (hg : Gl X x) (hm : X.mg x = none) (hv : bootBuiltins x = some (.builtin id)) (ha : PA X (e :: es) t) (hn : x ≠ "__name__" := by decide) (hdb : (x == ("__debug__" : Str)) = false := by decide)
    (he : starEach (e :: es) X.env = (false, eval e X.env) :: starEach es X.env := by rfl) (hpl : (backTo pos (starEach es X.env)).any (·.1) = false := by rfl) : PE X (.Call (.Name x p) (e :: es) [] pos) (tCB r t) := by
  intro pins s σ H Q I h
  refine wpAny_Call_Name_kw (ld_blt I hg hm hv ?_ hn hdb)
  exact PyProof.Rows.callWith_builtin1 (thn (ha pos pins s σ H _ I h) fun us s1 ⟨vs, H1, I1, r1, q1⟩ => hc pins s1 σ H1 vs us Q I1 r1 q1) he hpl
theorem pe_callTy (hc : CallR X (.type T) r) (hg : Gl X x) (hm : X.mg x = none) (hv : bootBuiltins x = some (.type T)) (ha : PA X (e :: es) t) (hn : x ≠ "__name__" := by decide) (hdb : (x == ("__debug__" : Str)) = false := by decide)
    (he : starEach (e :: es) X.env = (false, eval e X.env) :: starEach es X.env := by rfl) (hpl : (backTo pos (starEach es X.env)).any (·.1) = false := by rfl) : PE X (.Call (.Name x p) (e :: es) [] pos) (tCB r t) := by
  intro pins s σ H Q I h
  refine wpAny_Call_Name_kw (ld_blt I hg hm hv ?_ hn hdb)
  exact PyProof.Rows.callWith_type1 (thn (ha pos pins s σ H _ I h) fun us s1 ⟨vs, H1, I1, r1, q1⟩ => hc pins s1 σ H1 vs us Q I1 r1 q1) he hpl
end
end L2
namespace HT
open PySem PyProof.Rows
section
open PySem.SeqAt
open PySem.AutoSeq1 (wpAny_loadPart')
open PySem.MeetsSeq PySem.MeetsSeq2 PySem.MeetsSeq3
end
section
variable {prog : Program} {w : World} {A : Around} {E : Value → Shared → Prop} {s : Shared}
theorem cat_tup {t b : Addr} {vs ws : List Value} {Q : Value → Shared → Prop} (ht : IsTup s.heap t vs.toArray) (hb : IsTup s.heap b ws.toArray) (hv : vs ≠ [])
    (h1 : ws = [] → Q (.ref t) s) (h2 : ws ≠ [] → Q (.ref s.heap.objs.size) { s with heap := s.heap.push { cls := .type "tuple", data := .seq (vs ++ ws).toArray } })
    (hsz : vs.length + ws.length ≤ sizeLine) : wpAny (model prog w) A (binaryOp .Add (.ref t) (.ref b)) Q E s := by
  obtain ⟨⟨cls, dd, data, sl⟩, ho, hc, n, hd⟩ := id ht
  obtain ⟨⟨cls2, dd2, data2, sl2⟩, ho2, hc2, n2, hd2⟩ := id hb
  simp only at hc hd hc2 hd2
  subst hc hd hc2 hd2
  have e : vs.toArray ++ ws.toArray = (vs ++ ws).toArray := by simp
  by_cases hw : ws = []
  · exact concat_meets ⟨_, ho, rfl⟩ ⟨_, ho2, rfl⟩ noFill_tuple_add seq_tuple_add PySem.F.slot_tuple_add PySem.F.entry_tuple_add (PySem.F.args_tuple_add_2 _ _)
      (tuple_addW1 t b vs.toArray ws.toArray n n2 dd dd2 sl sl2 (by simpa using hv) (by simp [hw])) ⟨ho, ho2, h1 hw⟩
  · refine concat_meets ⟨_, ho, rfl⟩ ⟨_, ho2, rfl⟩ noFill_tuple_add seq_tuple_add PySem.F.slot_tuple_add PySem.F.entry_tuple_add (PySem.F.args_tuple_add_2 _ _)
      (tuple_addW2 t b vs.toArray ws.toArray n n2 dd dd2 sl sl2 (by simpa using hv) (by simpa using hw) (by rw [List.size_toArray, List.size_toArray]; exact hsz)) ⟨ho, ho2, ?_⟩
    rw [e]
    exact h2 hw
noncomputable def sIx (n d : Nat) : Option Int → Nat
  | none => d
  | some v => if v < 0 then (v + (n : Int)).toNat else min v.toNat n
theorem sIx_none (n d : Nat) : sIx n d none = d := rfl
theorem sIx_nat (n d k : Nat) : sIx n d (some (k : Int)) = min k n := by
  show (if (k : Int) < 0 then ((k : Int) + (n : Int)).toNat else min (k : Int).toNat n) = min k n
  rw [if_neg (by omega), Int.toNat_natCast]
theorem sIx_le (n d : Nat) (hd : d ≤ n) (o : Option Int) : sIx n d o ≤ n := by
  cases o with
  | none => exact hd
  | some v =>
    show (if v < 0 then (v + (n : Int)).toNat else min v.toNat n) ≤ n
    by_cases hv : v < 0
    · rw [if_pos hv]; omega
    · rw [if_neg hv]; exact Nat.min_le_right _ _
theorem clip_eq (v : Int) (n d : Nat) : (if v < 0 then max (v + (n : Int)) 0 else min v (n : Int)) = ((sIx n d (some v) : Nat) : Int) := by
  show (if v < 0 then max (v + (n : Int)) 0 else min v (n : Int)) = (((if v < 0 then (v + (n : Int)).toNat else min v.toNat n) : Nat) : Int)
  by_cases hv : v < 0
  · simp only [if_pos hv]; omega
  · simp only [if_neg hv]; omega
theorem adjust_gen (lo hi : Option Int) (n : Nat) : Builtin.Slice.sliceAdjust lo hi 1 (n : Int) = (((sIx n 0 lo : Nat) : Int), ((sIx n n hi : Nat) : Int)) := by
  have h1 : ¬ ((1 : Int) < 0) := by omega
  unfold Builtin.Slice.sliceAdjust
  simp only [h1, if_false]
  refine Prod.ext ?_ ?_
  · cases lo with
    | none => rfl
    | some v => exact clip_eq v n 0
  · cases hi with
    | none => rfl
    | some v => exact clip_eq v n n
theorem places_gen (i j : Nat) : Builtin.Slice.slicePlaces (i : Int) (j : Int) 1 = j - i := by
  unfold Builtin.Slice.slicePlaces
  have h1 : (1 : Int) > 0 := by omega
  simp only [h1, if_true, Int.ediv_one]
  split <;> omega
theorem slicePart_ {v : Value} {o : Option Int} {Q : Option Int → Shared → Prop} (p : IsPart v o) (h : Q o s) : wpAny (model prog w) A (Builtin.Slice.slicePartIndex v) Q E s := by
  cases p with
  | none => exact slicePart_none h
  | int i t => exact slicePart_int h
theorem sliceApplied_gen {sl : Addr} {vl vu : Value} {lo hi : Option Int} {n : Nat} {Q : Int × Int × Nat → Shared → Prop} (hs : s.heap.IsSliceOf sl vl vu .none) (pl : IsPart vl lo) (pu : IsPart vu hi)
    (h : Q (((sIx n 0 lo : Nat) : Int), 1, sIx n n hi - sIx n 0 lo) s) : wpAny (model prog w) A (Builtin.Slice.sliceApplied (.ref sl) (pure (n : Int))) Q E s := by
  obtain ⟨os, hos, hcs, hds⟩ := id hs
  unfold Builtin.Slice.sliceApplied Builtin.Slice.sliceFields
  refine wpAny_bind (wpAny_bind (wpAny_field hos hds (x := vl) rfl (wpAny_bind (wpAny_field hos hds (x := vu) rfl (wpAny_bind (wpAny_field hos hds (x := .none) rfl (wpAny_pure ?_)))))))
  refine wpAny_bind (slicePart_none ?_)
  show wpAny _ _ (if ((1 : Int) == 0) = true then _ else _) _ _ s
  rw [if_neg (by decide)]
  refine wpAny_bind (slicePart_ pl (wpAny_bind (slicePart_ pu (wpAny_bind (wpAny_pure ?_)))))
  show wpAny _ _ (match Builtin.Slice.sliceAdjust lo hi 1 (n : Int) with | (lo, hi) => pure (lo, (1 : Int), Builtin.Slice.slicePlaces lo hi 1)) _ _ s
  rw [adjust_gen lo hi n]
  show wpAny _ _ (pure (((sIx n 0 lo : Nat) : Int), (1 : Int), Builtin.Slice.slicePlaces ((sIx n 0 lo : Nat) : Int) ((sIx n n hi : Nat) : Int) 1)) _ _ s
  rw [places_gen]
  exact wpAny_pure h
theorem pick_gen (xs : Array Value) (i k : Nat) : ((List.range k).filterMap fun (m : Nat) => xs[((i : Int) + (m : Int) * 1).toNat]?).toArray = ((xs.toList.drop i).take k).toArray := by
  have e : (fun (m : Nat) => xs[((i : Int) + (m : Int) * 1).toNat]?) = fun m => xs[i + m]? := by
    funext m
    have : ((i : Int) + (m : Int) * 1).toNat = i + m := by omega
    rw [this]
  rw [e]
  have := pick_run xs i k
  rw [List.filterMap_map] at this
  have e2 : ((fun x => xs[x]?) ∘ fun x => i + x) = fun m => xs[i + m]? := rfl
  rw [e2] at this
  rw [this]
theorem getItem_tuple_cut {t sl : Addr} {items : Array Value} {vl vu : Value} {lo hi : Option Int} {Q : Value → Shared → Prop} (ht : IsTup s.heap t items) (hs : s.heap.IsSliceOf sl vl vu .none) (pl : IsPart vl lo) (pu : IsPart vu hi)
    (hw : ¬ (sIx items.size 0 lo = 0 ∧ sIx items.size items.size hi = items.size))
    (h : Q (.ref s.heap.objs.size) { s with heap := s.heap.push { cls := .type "tuple", data := .seq ((items.toList.drop (sIx items.size 0 lo)).take (sIx items.size items.size hi - sIx items.size 0 lo)).toArray } })
    (hsz : items.size ≤ sizeLine) : wpAny (model prog w) A (getItem (.ref t) (.ref sl)) Q E s := by
  have htake : sizeOk (.seq ((items.toList.drop (sIx items.size 0 lo)).take (sIx items.size items.size hi - sIx items.size 0 lo)).toArray) := by
    show ((items.toList.drop (sIx items.size 0 lo)).take (sIx items.size items.size hi - sIx items.size 0 lo)).toArray.size ≤ sizeLine
    rw [List.size_toArray, List.length_take, List.length_drop, Array.length_toList]
    omega
  have hj : sIx items.size items.size hi ≤ items.size := sIx_le _ _ (Nat.le_refl _) hi
  obtain ⟨os, hos, hcs, hds⟩ := id hs
  have hTs : s.TypeIs (.ref sl) "slice" := ⟨os, hos, hcs⟩
  unfold getItem
  try with_reducible refine wpAny_holding ?_
  first | refine wpAny_bind (wpAny_pure ?_) | skip
  refine wpAny_bind (wpAny_sequenceKey ht.typeIs (by decide) ?_)
  refine wpAny_bind (wpAny_callSpecial?_slot (name := Str.ofString "__getitem__") ht.typeIs PyProof.Rows.slot_tuple_getitem
    (wpAny_call_entry PyProof.Rows.slot_tuple_getitem ht.typeIs entry_tuple_getitem ?_ (args_tuple_getitem _ _)))
  show wpAny _ _ (Builtin.Tuple.tupleItemsOf (.ref t) >>= _) _ _ s
  refine wpAny_bind (tupleItemsOf_ ht ?_)
  refine wpAny_bind (wpAny_typeOf hTs ?_)
  rw [if_pos (by decide)]
  refine wpAny_bind (sliceApplied_gen hs pl pu ?_)
  have hno : ¬ ((((sIx items.size 0 lo : Nat) : Int) == 0 && (1 : Int) == 1 && (sIx items.size items.size hi - sIx items.size 0 lo) == items.size) = true) := by
    intro q
    rw [Bool.and_eq_true, Bool.and_eq_true] at q
    have q1 : ((sIx items.size 0 lo : Nat) : Int) = 0 := eq_of_beq q.1.1
    have q2 : sIx items.size items.size hi - sIx items.size 0 lo = items.size := eq_of_beq q.2
    exact hw ⟨by omega, by omega⟩
  show wpAny _ _ (if (((sIx items.size 0 lo : Nat) : Int) == 0 && (1 : Int) == 1 && (sIx items.size items.size hi - sIx items.size 0 lo) == items.size) = true then _ else _) _ _ s
  rw [if_neg hno, pick_gen]
  first
    | exact wpAny_bind (m := Builtin.Tuple.tupleExact _) (wpAny_newObj_type (wpAny_pure ⟨_, rfl, wpAny_pure h⟩) htake)
    | exact wpAny_bind (m := Builtin.Tuple.tupleExact _) (wpAny_newObj_type (wpAny_bind (wpAny_pure (wpAny_pure ⟨_, rfl, wpAny_pure h⟩))) htake)
    | exact wpAny_bind (wpAny_bind (m := Builtin.Tuple.tupleExact _) (wpAny_newObj_type (wpAny_pure (wpAny_pure ⟨_, rfl, wpAny_pure h⟩)) htake))
    | exact wpAny_bind (wpAny_bind (m := Builtin.Tuple.tupleExact _) (wpAny_newObj_type (wpAny_pure ⟨_, rfl, wpAny_pure h⟩) htake))
end
end HT
namespace L2
open PySem PySem.Spec PyProof.Rows
noncomputable abbrev TO := St → Hp → (Option Int → Hp → Prop) → Prop
noncomputable def PO (X : Cx) (e : Option Expr) (t : TO) : Prop :=
  ∀ (pins : List (Addr × Obj)) (s : Shared) (σ : St) (H : Hp) (Q : Option Int → Hp → Prop), Inv X pins σ H s → t σ H Q →
    wpAny (model X.prog X.w) X.A (evalPart e X.env) (fun u s' => ∃ o H', Inv X pins σ H' s' ∧ IsPart u o ∧ Q o H') X.xe s
noncomputable def tNoPart : TO := fun _ H Q => Q none H
noncomputable def tPart (t : TE) : TO := fun σ H Q => t σ H fun x H1 => ∃ i, x = .int i ∧ Q (some i) H1
section
variable {X : Cx} {e : Expr} {te : TE} {lo hi : Option Expr} {tl th : TO} {pos p2 : Pos}
theorem po_none : PO X none tNoPart := by
  intro pins s σ H Q I h
  rw [evalPart_none]
  exact wpAny_pure ⟨none, H, I, .none, h⟩
theorem po_some (h : PE X e te) : PO X (some e) (tPart te) := by
  intro pins s σ H Q I hw
  rw [evalPart_some]
  refine thn (h pins s σ H _ I hw) fun u s1 ⟨x, H1, I1, r1, q1⟩ => ?_
  obtain ⟨i, rfl, q⟩ := q1
  obtain ⟨t, rfl⟩ := r1
  exact ⟨some i, H1, I1, .int i t, q⟩
noncomputable def SlR (X : Cx) (r : V → Option Int → Option Int → Hp → VK → Prop) : Prop :=
  ∀ (pins : List (Addr × Obj)) (s : Shared) (σ : St) (H : Hp) (x : V) (v vl vu : Value) (lo hi : Option Int) (sl : Addr) (Q : VK), Inv X pins σ H s → RelV x v → s.heap.IsSliceOf sl vl vu .none → IsPart vl lo → IsPart vu hi → r x lo hi H Q →
    ∃ T id, typeLookup (.type T) "__getitem__" = pure (some (.builtin id)) ∧ s.TypeIs v T ∧ wpAny (model X.prog X.w) X.A (getItem v (.ref sl)) (EP X pins σ Q) X.xe s
theorem SlR.or {r r' : V → Option Int → Option Int → Hp → VK → Prop} (h : SlR X r) (h' : SlR X r') : SlR X (fun x lo hi H Q => r x lo hi H Q ∨ r' x lo hi H Q) := by
  intro pins s σ H x v vl vu lo hi sl Q I rx hs pl pu q
  rcases q with q | q
  · exact h pins s σ H x v vl vu lo hi sl Q I rx hs pl pu q
  · exact h' pins s σ H x v vl vu lo hi sl Q I rx hs pl pu q
noncomputable def tSl (r : V → Option Int → Option Int → Hp → VK → Prop) (te : TE) (tl th : TO) : TE := fun σ H Q => te σ H fun x H1 => tl σ H1 fun l H2 => th σ H2 fun u H3 => r x l u H3 Q
theorem pe_slice {r : V → Option Int → Option Int → Hp → VK → Prop} (hr : SlR X r) (he : PE X e te) (hl : PO X lo tl) (hu : PO X hi th) : PE X (.Subscript e (.Slice lo hi none p2) pos) (tSl r te tl th) := by
  intro pins s σ H Q I h
  refine Subscript_ (thn (he pins s σ H _ I h) fun v s1 ⟨x, H1, I1, r1, q1⟩ => ?_)
  refine wpAny_Slice (thn (hl pins s1 σ H1 _ I1 q1) fun vl s2 ⟨l, H2, I2, pl, q2⟩ => thn (hu pins s2 σ H2 _ I2 q2) fun vu s3 ⟨u, H3, I3, pu, q3⟩ => ?_)
  rw [evalPart_none]
  refine wpAny_pure ?_
  have I4 : Inv X pins σ H3 { s3 with heap := s3.heap.push { cls := .type "slice", data := .fields #[vl, vu, .none] } } := I3.kept (t' := s3.toks) fun b ob q => Heap.get?_push_of_some _ q
  obtain ⟨T, id, hT, ht, hg⟩ := hr pins { s3 with heap := s3.heap.push { cls := .type "slice", data := .fields #[vl, vu, .none] } } σ H3 x v vl vu l u s3.heap.objs.size Q I4 r1 (Heap.IsSliceOf.new ..) pl pu q3
  show wpAny (model X.prog X.w) X.A (subscriptTail e (.Slice lo hi none p2) v (.ref s3.heap.objs.size)) (EP X pins σ Q) X.xe { s3 with heap := s3.heap.push { cls := .type "slice", data := .fields #[vl, vu, .none] } }
  exact tail_any (ops := [.ref s3.heap.objs.size, v]) ht hT hg (by with_unfolding_all rfl)
noncomputable def cutV (xs : List V) (lo hi : Option Int) : List V := (xs.drop (HT.sIx xs.length 0 lo)).take (HT.sIx xs.length xs.length hi - HT.sIx xs.length 0 lo)
theorem cutV_length (xs : List V) (lo hi : Option Int) : (cutV xs lo hi).length ≤ xs.length := by
  unfold cutV
  rw [List.length_take, List.length_drop]
  omega
noncomputable def rSlT (K : PySem.W.Frag) : V → Option Int → Option Int → Hp → VK → Prop := fun x lo hi H Q => ∃ a xs, x = .ref a ∧ SqT K H a xs ∧
  ¬ (HT.sIx xs.length 0 lo = 0 ∧ HT.sIx xs.length xs.length hi = xs.length) ∧ ∀ p, H p = none → Q (.ref p) (upd H p (.tup (cutV xs lo hi)))
theorem sl_tup : SlR X (rSlT X.K) := by
  intro pins s σ H x v vl vu lo hi sl Q I rx hs pl pu h
  obtain ⟨a, xs, rfl, hx, hw, q⟩ := h
  cases rx
  obtain ⟨its, r, ht, hz⟩ := I.tuple hx
  have hlen : its.toArray.size = xs.length := by rw [List.size_toArray]; exact r.length.symm
  refine ⟨"tuple", _, PyProof.Rows.slot_tuple_getitem.lookup, ht.typeIs, ?_⟩
  refine HT.getItem_tuple_cut ht hs pl pu (by rw [hlen]; exact hw) ?_ (by rw [hlen]; exact hz)
  rw [hlen]
  refine ⟨.ref s.heap.objs.size, _, I.laid (t' := s.toks) (o := .tup (cutV xs lo hi)) (fun b ob q => Heap.get?_push_of_some _ q) (Nat.le_refl _) ?_, rfl, q _ (I.hok.fresh (Nat.le_refl _))⟩
  exact ⟨Nat.le_trans (cutV_length xs lo hi) hz, _, (r.drop (HT.sIx xs.length 0 lo)).take (HT.sIx xs.length xs.length hi - HT.sIx xs.length 0 lo), IsTup.new _ _⟩
noncomputable def rCatT (K : PySem.W.Frag) : R2 := fun x y H Q => ∃ a b xs ys, x = .ref a ∧ y = .ref b ∧ SqT K H a xs ∧ SqT K H b ys ∧ xs ≠ [] ∧ xs.length + ys.length ≤ sizeLine ∧
  (ys = [] → Q (.ref a) H) ∧ (ys ≠ [] → ∀ p, H p = none → Q (.ref p) (upd H p (.tup (xs ++ ys))))
theorem Vals.nil_iff {xs : List V} {us : List Value} (r : Vals xs us) : us = [] ↔ xs = [] := by
  cases r with
  | nil => simp
  | cons _ _ => simp
theorem op_catT : OpR X (binaryOp .Add) (rCatT X.K) := by
  intro pins s σ H x y v u Q I rx ry h
  obtain ⟨a, b, xs, ys, rfl, rfl, ha, hb, hx, hz, q1, q2⟩ := h
  cases rx
  cases ry
  obtain ⟨its, r1, p1, _⟩ := I.tuple ha
  obtain ⟨its2, r2, p2, _⟩ := I.tuple hb
  refine HT.cat_tup p1 p2 (fun z => hx (r1.nil_iff.mp z)) (fun z => ⟨.ref a, H, I, rfl, q1 (r2.nil_iff.mp z)⟩) (fun z => ?_) (by rw [← r1.length, ← r2.length]; exact hz)
  refine ⟨.ref s.heap.objs.size, _, I.laid (t' := s.toks) (o := .tup (xs ++ ys)) (fun b ob q => Heap.get?_push_of_some _ q) (Nat.le_refl _) ?_, rfl, q2 (fun w => z (r2.nil_iff.mpr w)) _ (I.hok.fresh (Nat.le_refl _))⟩
  exact ⟨by rw [List.length_append]; exact hz, _, r1.append r2, IsTup.new _ _⟩
end
end L2
namespace L2
open PySem PySem.Spec PyProof.Rows
noncomputable def ixN (n : Nat) (i : Int) : Option Nat := if 0 ≤ i then (if i < n then some i.toNat else none) else if -(n : Int) ≤ i then some (i + n).toNat else none
noncomputable def atI {α : Type} (xs : List α) (i : Int) : Option α := (ixN xs.length i).bind fun j => xs[j]?
theorem ixN_seq {n : Nat} {i : Int} {j : Nat} (h : ixN n i = some j) : seqIndex? i n = some j ∧ j < n ∧ -(n : Int) ≤ i ∧ i < n := by
  unfold ixN at h
  by_cases h0 : 0 ≤ i
  · rw [if_pos h0] at h
    by_cases h1 : i < n
    · rw [if_pos h1] at h
      have e : i.toNat = j := Option.some.inj h
      exact ⟨by rw [seqIndex_of h0 h1, e], by omega, by omega, h1⟩
    · rw [if_neg h1] at h; cases h
  · rw [if_neg h0] at h
    by_cases h1 : -(n : Int) ≤ i
    · rw [if_pos h1] at h
      have e : (i + n).toNat = j := Option.some.inj h
      exact ⟨by rw [seqIndex_neg (by omega) h1, e], by omega, h1, by omega⟩
    · rw [if_neg h1] at h; cases h
theorem atI_get {α : Type} {xs : List α} {i : Int} {v : α} (h : atI xs i = some v) : ∃ j, seqIndex? i xs.length = some j ∧ xs[j]? = some v ∧ j < xs.length ∧ -(xs.length : Int) ≤ i ∧ i < xs.length := by
  unfold atI at h
  cases e : ixN xs.length i with
  | none => rw [e] at h; cases h
  | some j =>
    rw [e] at h
    obtain ⟨h1, h2, h3, h4⟩ := ixN_seq e
    exact ⟨j, h1, h, h2, h3, h4⟩
theorem atI_nat {α : Type} {xs : List α} {j : Nat} {v : α} (h : xs[j]? = some v) : atI xs (j : Int) = some v := by
  have hj : j < xs.length := (List.getElem?_eq_some_iff.mp h).1
  have e : ixN xs.length (j : Int) = some j := by
    unfold ixN
    rw [if_pos (by omega), if_pos (by omega)]; simp
  unfold atI; rw [e]; exact h
noncomputable def PlainIx (b : Expr) : Prop := ∀ o i, subscripted b false o i = operate [o, i] (getItem o i)
noncomputable def IxR (X : Cx) (r : R2) : Prop :=
  ∀ (value slice : Expr) (pins : List (Addr × Obj)) (s : Shared) (σ : St) (H : Hp) (x y : V) (v u : Value) (Q : VK), Inv X pins σ H s → RelV x v → RelV y u → r x y H Q →
    subscripted slice false v u = operate [v, u] (getItem v u) → wpAny (model X.prog X.w) X.A (subscriptTail value slice v u) (EP X pins σ Q) X.xe s
noncomputable def MtR (X : Cx) (id : String) (r : V → List V → Hp → VK → Prop) : Prop :=
  ∀ (pins : List (Addr × Obj)) (s : Shared) (σ : St) (H : Hp) (x : V) (xs : List V) (v : Value) (us : List Value) (Q : VK), Inv X pins σ H s → RelV x v → Vals xs us → r x xs H Q →
    wpAny (model X.prog X.w) X.A (call (.builtin id) (v :: us)) (EP X pins σ Q) X.xe s
section
variable {X : Cx} {a b : Expr} {ta tb : TE} {pos : Pos}
theorem IxR.or {r r' : R2} (h : IxR X r) (h' : IxR X r') : IxR X (fun x y H Q => r x y H Q ∨ r' x y H Q) := by
  intro value slice pins s σ H x y v u Q I rx ry q hs
  rcases q with q | q
  · exact h value slice pins s σ H x y v u Q I rx ry q hs
  · exact h' value slice pins s σ H x y v u Q I rx ry q hs
theorem MtR.or {id : String} {r r' : V → List V → Hp → VK → Prop} (h : MtR X id r) (h' : MtR X id r') : MtR X id (fun x xs H Q => r x xs H Q ∨ r' x xs H Q) := by
  intro pins s σ H x xs v us Q I rx rs q
  rcases q with q | q
  · exact h pins s σ H x xs v us Q I rx rs q
  · exact h' pins s σ H x xs v us Q I rx rs q
theorem pe_ix {r : R2} (hr : IxR X r) (ha : PE X a ta) (hb : PE X b tb) (hs : PlainIx b) : PE X (.Subscript a b pos) (tOp r ta tb) := by
  intro pins s σ H Q I h
  exact Subscript_ (binT ha hb I h fun v u s2 x y H2 I2 rx ry q => hr a b pins s2 σ H2 x y v u Q I2 rx ry q (hs _ _))
noncomputable def rIxL (K : PySem.W.Frag) : R2 := fun x y H Q => ∃ p xs i v, x = .ref p ∧ y = .int i ∧ SqL K H p xs ∧ atI xs i = some v ∧ Q v H
noncomputable def rIxT (K : PySem.W.Frag) : R2 := fun x y H Q => ∃ p xs i v, x = .ref p ∧ y = .int i ∧ SqT K H p xs ∧ atI xs i = some v ∧ Q v H
noncomputable def rIxS : R2 := fun x y H Q => ∃ z i c, x = .str z ∧ y = .int i ∧ z.length ≤ sizeLine ∧ atI z.cps.toList i = some c ∧ Q (.str ⟨#[c]⟩) H
theorem ix_list : IxR X (rIxL X.K) := by
  intro value slice pins s σ H x y v u Q I rx ry h hs
  obtain ⟨p, xs, i, z, rfl, rfl, hq, he, q⟩ := h
  cases rx
  obtain ⟨t, rfl⟩ := ry
  obtain ⟨its, r, pl, hz⟩ := I.list hq
  obtain ⟨j, h1, h2, h3, h4, h5⟩ := atI_get he
  obtain ⟨w, ew, rw'⟩ := r.get h2
  have hl := r.length
  have hn := line63
  have fin : EP X pins σ Q w s := ⟨z, H, I, rw', q⟩
  by_cases h0 : 0 ≤ i
  · have hj : i.toNat = j := by
      rw [seqIndex_of h0 h5] at h1
      exact Option.some.inj h1
    exact item_listR pl.isList h0 (by omega) (by rw [hj]; simpa using ew) fin hs
  · have hj : (i + (its.toArray.size : Int)).toNat = j := by
      rw [seqIndex_neg (by omega) h4] at h1
      rw [List.size_toArray, ← hl]
      exact Option.some.inj h1
    exact subscriptTail_builtinR (x := w) pl.isList.typeIs slot_list_getitem.lookup
      (wpAny_getItem_list_neg (Q := fun r s' => r = w ∧ EP X pins σ Q r s') pl.isList (by omega) (by rw [List.size_toArray] <;> omega) (by omega) (by rw [hj]; simpa using ew) ⟨rfl, fin⟩) hs
theorem ix_tup : IxR X (rIxT X.K) := by
  intro value slice pins s σ H x y v u Q I rx ry h hs
  obtain ⟨p, xs, i, z, rfl, rfl, hq, he, q⟩ := h
  cases rx
  obtain ⟨t, rfl⟩ := ry
  obtain ⟨its, r, pl, hz⟩ := I.tuple hq
  obtain ⟨j, h1, h2, h3, h4, h5⟩ := atI_get he
  obtain ⟨w, ew, rw'⟩ := r.get h2
  have hl := r.length
  have hn := line63
  have fin : EP X pins σ Q w s := ⟨z, H, I, rw', q⟩
  exact subscriptTail_builtinR (x := w) pl.typeIs slot_tuple_getitem.lookup
    (getItem_tuple (j := j) (Q := fun r s' => r = w ∧ EP X pins σ Q r s') pl (by omega) (by omega) (by rw [List.size_toArray, ← hl]; exact h1) (by simpa using ew) ⟨rfl, fin⟩) hs
theorem ix_str : IxR X rIxS := by
  intro value slice pins s σ H x y v u Q I rx ry h hs
  obtain ⟨z, i, c, rfl, rfl, hz, he, q⟩ := h
  obtain ⟨t, rfl⟩ := rx
  obtain ⟨t', rfl⟩ := ry
  obtain ⟨j, h1, h2, h3, h4, h5⟩ := atI_get he
  have hl : z.cps.toList.length = z.length := by simp [Str.length]
  rw [hl] at h1 h4 h5
  have hn := line63
  exact tail_any (typeIs_str s z t) slot_str_getitem.lookup (getItem_str (c := c) (by
    have e1 : decide (i < -(2 ^ 63 : Int)) = false := decide_eq_false (by omega)
    have e2 : decide (i ≥ 2 ^ 63) = false := decide_eq_false (by omega)
    rw [e1, e2, Bool.or_false]) (by rw [h1]; simpa using h2) ⟨.str ⟨#[c]⟩, H, I.tok _, ⟨_, rfl⟩, q⟩) hs
noncomputable def rIx (K : PySem.W.Frag) : R2 := fun x y H Q => rIxL K x y H Q ∨ rIxT K x y H Q ∨ rIxS x y H Q
theorem ix_seq : IxR X (rIx X.K) := ix_list.or (ix_tup.or ix_str)
theorem mapSeq_set (its : List Value) (n j : Nat) (u : Value) : Obj.mapSeq (·.setIfInBounds j u) { cls := .type "list", data := .seq its.toArray n } = { cls := .type "list", data := .seq (its.set j u).toArray n } := by
  simp [Obj.mapSeq]
theorem Inv.lst {pins : List (Addr × Obj)} {σ : St} {H : Hp} {s : Shared} {p : Addr} {xs : List V} (I : Inv X pins σ H s) (h : H p = some (.lst xs)) :
    ∃ (its : List Value) (n : Nat), Vals xs its ∧ s.heap.get? p = some { cls := .type "list", data := .seq its.toArray n } ∧ xs.length ≤ sizeLine := by
  obtain ⟨z, its, n, r, e⟩ := I.hok p _ h
  exact ⟨its, n, r, e, z⟩
theorem Inv.lstUpd {pins : List (Addr × Obj)} {σ : St} {H : Hp} {s : Shared} {p : Addr} {xs ys : List V} {its its' : List Value} {n n' : Nat} {f : Obj → Obj} (I : Inv X pins σ H s) (h : H p = some (.lst xs))
    (ho : s.heap.get? p = some { cls := .type "list", data := .seq its.toArray n }) (hf : f { cls := .type "list", data := .seq its.toArray n } = { cls := .type "list", data := .seq its'.toArray n' }) (r : Vals ys its') (hz : ys.length ≤ sizeLine) (t : Nat) :
    Inv X pins σ (upd H p (.lst ys)) { s with heap := s.heap.update p f, toks := t } := by
  have e : (s.heap.update p f).get? p = some { cls := .type "list", data := .seq its'.toArray n' } := by
    rw [Heap.get?_update_self f ho (by rw [hf] <;> rfl), hf]
  refine I.write (x := p) (e := p) (by rw [h]; trivial) (.inl rfl) (fun b u hb q => (Heap.get?_update_other _ _ (Ne.symm hb)).trans q) ⟨_, e⟩ ?_
  exact ⟨hz, its', n', r, e⟩
noncomputable def rSetL : V → V → V → Hp → (Hp → Prop) → Prop := fun o i v H Q => ∃ p xs k j, o = .ref p ∧ i = .int k ∧ H p = some (.lst xs) ∧ ixN xs.length k = some j ∧ Q (upd H p (.lst (xs.set j v)))
theorem set_list : PSet X rSetL := by
  intro pins s σ H o i v ov iv u Q I ro ri rv h
  obtain ⟨p, xs, k, j, rfl, rfl, hp, hj, q⟩ := h
  cases ro
  obtain ⟨t, rfl⟩ := ri
  obtain ⟨its, n, r, ho, hz⟩ := I.lst hp
  obtain ⟨h1, h2, h3, h4⟩ := ixN_seq hj
  have hl := r.length
  have hn := line63
  have I' : Inv X pins σ (upd H p (.lst (xs.set j v))) { s with heap := s.heap.update p (Obj.mapSeq (·.setIfInBounds j u)) } :=
    I.lstUpd hp ho (mapSeq_set its n j u) (r.set rv j) (by rw [List.length_set]; exact hz) s.toks
  by_cases h0 : 0 ≤ k
  · have hk : k.toNat = j := by
      rw [seqIndex_of h0 h4] at h1
      exact Option.some.inj h1
    exact PySem.W.ki_setAt ho h0 (by omega) (by rw [List.size_toArray, ← hl]; exact h4) (by rw [hk]; exact ⟨_, I', q⟩)
  · have hk : (k + (its.toArray.size : Int)).toNat = j := by
      rw [seqIndex_neg (by omega) h3] at h1
      rw [List.size_toArray, ← hl]
      exact Option.some.inj h1
    exact PySem.W.ki_setBack ho (by omega) (by rw [List.size_toArray, ← hl]; exact h3) (by omega) (by rw [hk]; exact ⟨_, I', q⟩)
theorem slice_bounds (lo hi : Option Int) (n : Nat) : (sliceBounds lo hi none n).1 = ((HT.sIx n 0 lo : Nat) : Int) ∧ (sliceBounds lo hi none n).2.1 = ((HT.sIx n n hi : Nat) : Int) ∧ (sliceBounds lo hi none n).2.2 = 1 := by
  refine ⟨?_, ?_, rfl⟩
  · cases lo with
    | none => simp [sliceBounds, HT.sIx]
    | some i =>
      simp only [sliceBounds, HT.sIx, Option.getD_none, show (1 : Int) > 0 by decide, if_true]
      by_cases h : i < 0
      · simp only [h, if_true] <;> omega
      · simp only [h, if_false] <;> omega
  · cases hi with
    | none => simp [sliceBounds, HT.sIx]
    | some i =>
      simp only [sliceBounds, HT.sIx, Option.getD_none, show (1 : Int) > 0 by decide, if_true]
      by_cases h : i < 0
      · simp only [h, if_true] <;> omega
      · simp only [h, if_false] <;> omega
theorem slicePick_cut (its : List Value) (lo hi : Option Int) : slicePick its.toArray lo hi none = ((its.drop (HT.sIx its.length 0 lo)).take (HT.sIx its.length its.length hi - HT.sIx its.length 0 lo)).toArray := by
  obtain ⟨h1, h2, h3⟩ := slice_bounds lo hi its.toArray.size
  unfold slicePick
  rw [h1, h2, h3]
  simp only [sliceRange_one, pick_run, List.size_toArray] <;> rfl
noncomputable def rSlL (K : PySem.W.Frag) : V → Option Int → Option Int → Hp → VK → Prop := fun x lo hi H Q => ∃ a xs, x = .ref a ∧ SqL K H a xs ∧ ∀ p, H p = none → Q (.ref p) (upd H p (.lst (cutV xs lo hi)))
theorem sl_list : SlR X (rSlL X.K) := by
  intro pins s σ H x v vl vu lo hi sl Q I rx hs pl pu h
  obtain ⟨a, xs, rfl, hx, q⟩ := h
  cases rx
  obtain ⟨its, r, ht, hz⟩ := I.list hx
  have hlen := r.length
  refine ⟨"list", _, slot_list_getitem.lookup, ht.isList.typeIs, ?_⟩
  refine wpAny_getItem_list_slice ht.isList hs pl pu .none (by simp) ?_ (by rw [List.size_toArray] <;> omega)
  rw [slicePick_cut, ← hlen]
  refine ⟨.ref s.heap.objs.size, _, I.laid (t' := s.toks) (o := .lst (cutV xs lo hi)) (fun b ob q => Heap.get?_push_of_some _ q) (Nat.le_refl _) ?_, rfl, q _ (I.hok.fresh (Nat.le_refl _))⟩
  exact ⟨Nat.le_trans (cutV_length xs lo hi) hz, _, 0, (r.drop (HT.sIx xs.length 0 lo)).take (HT.sIx xs.length xs.length hi - HT.sIx xs.length 0 lo), Heap.get?_push_size _ rfl⟩
noncomputable def flatV : V → Bool
  | .non => true
  | .bl _ => true
  | .int _ => true
  | .str _ => true
  | _ => false
noncomputable def eqV : V → V → Bool
  | .non, .non => true
  | .bl a, .bl b => a == b
  | .bl a, .int b => (if a then 1 else 0) == b
  | .int a, .bl b => a == (if b then 1 else 0)
  | .int a, .int b => a == b
  | .str a, .str b => a == b
  | _, _ => false
theorem eqAt_V {A : Around} {s : Shared} {y x : V} {u v : Value} (ry : RelV y u) (rx : RelV x v) (fy : flatV y = true) (fx : flatV x = true) : SeqAt.EqAt A s u v (eqV y x) := by
  cases y with
  | non =>
    cases ry
    cases x with
    | non => cases rx; exact SeqAt.EqAt.same _
    | bl b => cases rx; exact SeqAt.EqAt.none_bool b
    | int b => obtain ⟨t, rfl⟩ := rx; exact SeqAt.EqAt.none_int b t
    | str b => obtain ⟨t, rfl⟩ := rx; exact SeqAt.EqAt.none_str b t
    | _ => exact absurd (show false = true from fx) Bool.false_ne_true
  | bl a =>
    cases ry
    cases x with
    | non => cases rx; exact SeqAt.EqAt.bool_none a
    | bl b => cases rx; exact SeqAt.EqAt.bool_bool a b
    | int b => obtain ⟨t, rfl⟩ := rx; exact SeqAt.EqAt.bool_int a b t
    | str b => obtain ⟨t, rfl⟩ := rx; exact SeqAt.EqAt.bool_str a b t
    | _ => exact absurd (show false = true from fx) Bool.false_ne_true
  | int a =>
    obtain ⟨t', rfl⟩ := ry
    cases x with
    | non => cases rx; exact SeqAt.EqAt.int_none a t'
    | bl b => cases rx; exact SeqAt.EqAt.int_bool a t' b
    | int b => obtain ⟨t, rfl⟩ := rx; exact SeqAt.EqAt.int_int a t' b t
    | str b => obtain ⟨t, rfl⟩ := rx; exact SeqAt.EqAt.int_str a t' b t
    | _ => exact absurd (show false = true from fx) Bool.false_ne_true
  | str a =>
    obtain ⟨t', rfl⟩ := ry
    cases x with
    | non => cases rx; exact SeqAt.EqAt.str_none a t'
    | bl b => cases rx; exact SeqAt.EqAt.str_bool a t' b
    | int b => obtain ⟨t, rfl⟩ := rx; exact SeqAt.EqAt.str_int a t' b t
    | str b => obtain ⟨t, rfl⟩ := rx; exact SeqAt.EqAt.str_str a t' b t
    | _ => exact absurd (show false = true from fx) Bool.false_ne_true
  | _ => exact absurd (show false = true from fy) Bool.false_ne_true
noncomputable def eqU (x : V) (u : Value) : Bool := match u with
  | .none => eqV .non x
  | .bool b => eqV (.bl b) x
  | .int i _ => eqV (.int i) x
  | .str z _ => eqV (.str z) x
  | _ => false
theorem eqU_of {x y : V} {u : Value} (r : RelV y u) (f : flatV y = true) : eqU x u = eqV y x := by
  cases y with
  | non => cases r; rfl
  | bl b => cases r; rfl
  | int i => obtain ⟨t, rfl⟩ := r; rfl
  | str z => obtain ⟨t, rfl⟩ := r; rfl
  | _ => exact absurd (show false = true from f) Bool.false_ne_true
theorem any_eqU {x : V} : ∀ {xs : List V} {us : List Value}, Vals xs us → xs.all flatV = true → us.any (eqU x) = xs.any fun y => eqV y x
  | _, _, .nil, _ => rfl
  | y :: xs, u :: us, .cons r t, f => by
    rw [List.all_cons, Bool.and_eq_true] at f
    rw [List.any_cons, List.any_cons, eqU_of r f.1, any_eqU t f.2]
theorem mem_eqAt {A : Around} {s : Shared} {x : V} {v : Value} (rx : RelV x v) (fx : flatV x = true) : ∀ {xs : List V} {us : List Value}, Vals xs us → xs.all flatV = true → ∀ u ∈ us, SeqAt.EqAt A s u v (eqU x u)
  | _, _, .nil, _ => fun u hu => by cases hu
  | y :: xs, u :: us, .cons r t, f => fun u' hu => by
    rw [List.all_cons, Bool.and_eq_true] at f
    rcases List.mem_cons.mp hu with rfl | hu
    · rw [eqU_of r f.1]; exact eqAt_V r rx f.1 fx
    · exact mem_eqAt rx fx t f.2 u' hu
noncomputable def inV (x : V) (xs : List V) : Bool := xs.any fun y => eqV y x
noncomputable def rIn (K : PySem.W.Frag) (neg : Bool) : R2 := fun x y H Q => ∃ p xs, y = .ref p ∧ (SqL K H p xs ∨ SqT K H p xs) ∧ flatV x = true ∧ xs.all flatV = true ∧ Q (.bl (if neg then !inV x xs else inV x xs)) H
theorem op_in_seq : OpR X (compareOp .In) (rIn X.K false) := by
  intro pins s σ H x y v u Q I rx ry h
  obtain ⟨p, xs, rfl, hq, fx, fs, q⟩ := h
  cases ry
  rcases hq with hq | hq
  · obtain ⟨its, r, pl, hz⟩ := I.list hq
    refine SeqAt.in_listAt (eqU x) pl.isList (fun w hw => mem_eqAt rx fx r fs w (by simpa using hw)) ⟨.bl _, H, I, rfl, ?_⟩
    rw [show its.toArray.any (eqU x) = its.any (eqU x) by simp, any_eqU r fs]
    exact q
  · obtain ⟨its, r, pl, hz⟩ := I.tuple hq
    refine SeqAt.in_tupleAt (eqU x) pl (fun w hw => mem_eqAt rx fx r fs w (by simpa using hw)) ⟨.bl _, H, I, rfl, ?_⟩
    rw [show its.toArray.any (eqU x) = its.any (eqU x) by simp, any_eqU r fs]
    exact q
theorem op_notIn_seq : OpR X (compareOp .NotIn) (rIn X.K true) := by
  intro pins s σ H x y v u Q I rx ry h
  obtain ⟨p, xs, rfl, hq, fx, fs, q⟩ := h
  cases ry
  rcases hq with hq | hq
  · obtain ⟨its, r, pl, hz⟩ := I.list hq
    refine SeqAt.notIn_listAt (eqU x) pl.isList (fun w hw => mem_eqAt rx fx r fs w (by simpa using hw)) ⟨.bl _, H, I, rfl, ?_⟩
    rw [show its.toArray.any (eqU x) = its.any (eqU x) by simp, any_eqU r fs]
    exact q
  · obtain ⟨its, r, pl, hz⟩ := I.tuple hq
    refine SeqAt.notIn_tupleAt (eqU x) pl (fun w hw => mem_eqAt rx fx r fs w (by simpa using hw)) ⟨.bl _, H, I, rfl, ?_⟩
    rw [show its.toArray.any (eqU x) = its.any (eqU x) by simp, any_eqU r fs]
    exact q
theorem call_len_seq : CallR X (.builtin "len") (fun xs H Q => ∃ p ys, xs = [.ref p] ∧ (SqL X.K H p ys ∨ SqT X.K H p ys) ∧ Q (.int ys.length) H) := by
  intro pins s σ H xs us Q I r h
  obtain ⟨p, ys, rfl, hq, q⟩ := h
  obtain ⟨u, rfl, rx⟩ := vals1 r
  cases rx
  have hn := line63
  rcases hq with hq | hq
  · obtain ⟨its, r', pl, hz⟩ := I.list hq
    have hlen := r'.length
    exact Calls.call_len_list pl.isList (by simp only [List.size_toArray] <;> omega) ⟨.int ys.length, H, I.tok _, ⟨s.toks + 1, by rw [List.size_toArray, hlen]⟩, q⟩
  · obtain ⟨its, r', pl, hz⟩ := I.tuple hq
    have hlen := r'.length
    exact len_tuple pl (by simp only [List.size_toArray] <;> omega) ⟨.int ys.length, H, I.tok _, ⟨s.toks + 1, by rw [List.size_toArray, hlen]⟩, q⟩
theorem call_len_str : CallR X (.builtin "len") (fun xs H Q => ∃ z, xs = [.str z] ∧ z.length ≤ sizeLine ∧ Q (.int z.length) H) := by
  intro pins s σ H xs us Q I r h
  obtain ⟨z, rfl, hz, q⟩ := h
  obtain ⟨u, rfl, t, rfl⟩ := vals1 r
  have hn := line63
  exact len_str (by omega) ⟨.int z.length, H, I.tok _, ⟨_, rfl⟩, q⟩
theorem CallR.or {f : Value} {r r' : List V → Hp → VK → Prop} (h : CallR X f r) (h' : CallR X f r') : CallR X f (fun xs H Q => r xs H Q ∨ r' xs H Q) := by
  intro pins s σ H xs us Q I rs q
  rcases q with q | q
  · exact h pins s σ H xs us Q I rs q
  · exact h' pins s σ H xs us Q I rs q
theorem call_list_of : CallR X (.type "list") (fun xs H Q => ∃ p ys, xs = [.ref p] ∧ (SqL X.K H p ys ∨ SqT X.K H p ys) ∧ ∀ l, H l = none → Q (.ref l) (upd H l (.lst ys))) := by
  intro pins s σ H xs us Q I r h
  obtain ⟨p, ys, rfl, hq, q⟩ := h
  obtain ⟨u, rfl, rx⟩ := vals1 r
  cases rx
  have fin : ∀ (its : List Value), Vals ys its → ys.length ≤ sizeLine → ∀ (h' : Heap) (c' : Nat), (∀ b o', s.heap.get? b = some o' → h'.get? b = some o') →
      h'.get? s.heap.objs.size = some { cls := .type "list", dict := none, data := .seq its.toArray c', slots := #[] } → EP X pins σ Q (.ref s.heap.objs.size) { s with heap := h' } := fun its r' hz h' c' kp e =>
    ⟨.ref s.heap.objs.size, _, I.laid (t' := s.toks) kp (Nat.le_refl _) (show ObjOk X.prog X.w _ h' _ (.lst ys) from ⟨hz, its, c', r', e⟩), rfl, q _ (I.hok.fresh (Nat.le_refl _))⟩
  rcases hq with hq | hq
  · obtain ⟨its, r', pl, hz⟩ := I.list hq
    have hlen := r'.length
    obtain ⟨o, ho, hc, n, hd⟩ := pl.isList
    exact call_list_seq p (.inl rfl) ho hc hd (fun h' c' kp e => fin its r' hz h' c' kp e) (by simp only [List.size_toArray] <;> omega)
  · obtain ⟨its, r', pl, hz⟩ := I.tuple hq
    have hlen := r'.length
    obtain ⟨o, ho, hc, n, hd⟩ := pl
    exact call_list_seq p (.inr rfl) ho hc hd (fun h' c' kp e => fin its r' hz h' c' kp e) (by simp only [List.size_toArray] <;> omega)
theorem call_tuple_of : CallR X (.type "tuple") (fun xs H Q => ∃ p ys, xs = [.ref p] ∧ ((SqL X.K H p ys ∧ ∀ l, H l = none → Q (.ref l) (upd H l (.tup ys))) ∨ (SqT X.K H p ys ∧ Q (.ref p) H))) := by
  intro pins s σ H xs us Q I r h
  obtain ⟨p, ys, rfl, h⟩ := h
  obtain ⟨u, rfl, rx⟩ := vals1 r
  cases rx
  rcases h with ⟨hq, q⟩ | ⟨hq, q⟩
  · obtain ⟨its, r', pl, hz⟩ := I.list hq
    have hlen := r'.length
    refine call_tuple_list pl.isList (fun h' kp => ?_) (by simp only [List.size_toArray] <;> omega)
    have I1 : Inv X pins σ H { s with heap := h' } := I.kept (t' := s.toks) kp
    have I2 : Inv X pins σ (upd H h'.objs.size (.tup ys)) { s with heap := h'.push { cls := .type "tuple", data := .seq its.toArray } } :=
      I1.laid (t' := s.toks) (fun b o e => Heap.get?_push_of_some _ e) (Nat.le_refl _) (show ObjOk X.prog X.w _ _ _ (.tup ys) from ⟨hz, its, r', IsTup.new _ _⟩)
    exact ⟨.ref h'.objs.size, _, I2, rfl, q _ (I1.hok.fresh (Nat.le_refl _))⟩
  · obtain ⟨its, r', pl, hz⟩ := I.tuple hq
    exact call_tuple_same pl ⟨.ref p, H, I, rfl, q⟩
noncomputable def tyV (K : PySem.W.Frag) (T : String) (x : V) (H : Hp) : Prop := match x with
  | .str _ => T = "str"
  | .int _ => T = "int"
  | .ref p => (T = "list" ∧ ∃ xs, SqL K H p xs) ∨ (T = "tuple" ∧ ∃ o, K.lookup p = some o ∧ o.cls = .type "tuple" ∧ o.dict = none) ∨
      (T = "dict" ∧ ((∃ kvs, H p = some (.dK kvs)) ∨ ∃ kvs, H p = some (.dT kvs))) ∨ (T = "set" ∧ ∃ S n, H p = some (.set S n))
  | _ => False
theorem tyV_is {pins : List (Addr × Obj)} {σ : St} {H : Hp} {s : Shared} {T : String} {x : V} {v : Value} (I : Inv X pins σ H s) (r : RelV x v) (ty : tyV X.K T x H) :
    s.TypeIs v T ∧ ∀ a, v = .ref a → ∃ ob, s.heap.get? a = some ob ∧ ob.dict = none := by
  cases x with
  | str z =>
    obtain ⟨t, rfl⟩ := r
    cases (show T = "str" from ty)
    exact ⟨typeIs_str s z t, fun _ e => nomatch e⟩
  | int i =>
    obtain ⟨t, rfl⟩ := r
    cases (show T = "int" from ty)
    exact ⟨typeIs_int s i t, fun _ e => nomatch e⟩
  | ref p =>
    cases r
    rcases ty with ⟨rfl, xs, hq⟩ | ⟨rfl, o, hk, hc, hd⟩ | ⟨rfl, hk⟩ | ⟨rfl, S, n, hk⟩
    · obtain ⟨its, _, pl, _⟩ := I.list hq
      refine ⟨pl.isList.typeIs, fun a e => ?_⟩
      cases e
      obtain ⟨o, n, e, c, hd, _⟩ := pl
      exact ⟨o, e, hd⟩
    · refine ⟨⟨o, I.kIn p o hk, hc⟩, fun a e => ?_⟩
      cases e
      exact ⟨o, I.kIn _ o hk, hd⟩
    · have z : ∃ o, s.heap.get? p = some o ∧ o.ExactDict := by
        rcases hk with ⟨kvs, hk⟩ | ⟨kvs, hk⟩
        · obtain ⟨_, _, _, _, o, _, _, e, ex, _⟩ := I.hok p _ hk
          exact ⟨o, e, ex⟩
        · obtain ⟨_, _, _, _, o, _, _, e, ex, _⟩ := I.hok p _ hk
          exact ⟨o, e, ex⟩
      obtain ⟨o, e, ex⟩ := z
      refine ⟨⟨o, e, ex.1⟩, fun a e2 => ?_⟩
      cases e2
      exact ⟨o, e, ex.2.1⟩
    · obtain ⟨o, _, _, _, e, ex, _⟩ := I.hok p _ hk
      refine ⟨⟨o, e, ex.1⟩, fun a e2 => ?_⟩
      cases e2
      exact ⟨o, e, ex.2.1⟩
  | _ => exact False.elim ty
noncomputable def tBM (K : PySem.W.Frag) (T : String) (r : V → List V → Hp → VK → Prop) (to : TE) (t : TA) : TE := fun σ H Q => to σ H fun x H1 => tyV K T x H1 ∧ t σ H1 fun xs H2 => r x xs H2 Q
variable {o e : Expr} {es : List Expr} {to : TE} {t : TA} {name : Str} {apos cpos : Pos} {T id : String} {r : V → List V → Hp → VK → Prop}
theorem pe_bm (pa : PlainAttrs T) (slot : Slot T name id) (hty : typeOf (.builtin id) = pure (.type "method_descriptor")) (hm : MtR X id r) (ho : PE X o to) (ha : PA X (e :: es) t)
    (hbase : attributeBase o name X.env (eval o X.env) = eval o X.env := by rfl)
    (hfew : ((backTo cpos (starEach (e :: es) X.env)).all (fun x => !x.1) && (backToKw cpos (keywordEach [] X.env)).all (fun x => x.1.isSome)
      && decide ((e :: es).length + ([] : List Keyword).length + (if ([] : List Keyword).isEmpty then 0 else 1) < 30)) = true := by rfl)
    (hline : (apos.endLine == cpos.line) = true := by rfl) (hs : starEach (e :: es) X.env = (false, eval e X.env) :: starEach es X.env := by rfl) (hplain : (backTo cpos (starEach es X.env)).any (·.1) = false := by rfl) :
    PE X (.Call (.Attribute o name apos) (e :: es) [] cpos) (tBM X.K T r to t) := by
  intro pins s σ H Q I h
  refine wpAny_Call_method_late hbase hfew hline rfl (thn (ho pins s σ H _ I h) fun v s1 ⟨x, H1, I1, r1, ty, q1⟩ => ?_)
  obtain ⟨h1, h2⟩ := tyV_is I1 r1 ty
  refine ⟨T, id, pa, slot, hty, h1, h2, ?_⟩
  have hA := ha cpos pins s1 σ H1 _ I1 q1
  rw [hs] at hA ⊢
  refine Calls.callWith_builtin (by show (false || (backTo cpos (starEach es X.env)).any (·.1)) = false; rw [hplain] <;> rfl) (Calls.evalArgs_plain ?_)
  exact thn hA fun us s2 ⟨vs, H2, I2, r2, q2⟩ => hm pins s2 σ H2 x vs v us Q I2 r1 r2 q2
end
end L2
namespace L2
open PySem PySem.Spec PyProof.Rows
noncomputable def MtM (X : Cx) (id : String) (r : V → List V → Hp → VK → Prop) : Prop :=
  ∀ (pins : List (Addr × Obj)) (s : Shared) (σ : St) (H : Hp) (x : V) (xs : List V) (v : Value) (us : List Value) (Q : VK), Inv X pins σ H s → RelV x v → Vals xs us → r x xs H Q →
    wpAny (model X.prog X.w) X.A (call (.builtin id) (v :: us)) (EP X pins σ Q) X.xe s
theorem Vals.one : ∀ {x : V} {us : List Value}, Vals [x] us → ∃ u, us = [u] ∧ RelV x u
  | _, _, .cons r .nil => ⟨_, rfl, r⟩
theorem Vals.zero : ∀ {us : List Value}, Vals [] us → us = []
  | _, .nil => rfl
theorem Vals.eraseIdx : ∀ {xs : List V} {us : List Value} (i : Nat), Vals xs us → Vals (xs.eraseIdx i) (us.eraseIdx i)
  | _, _, _, .nil => .nil
  | _, _, 0, .cons _ t => t
  | _, _, i + 1, .cons r t => .cons r (Vals.eraseIdx i t)
theorem Vals.reverse {xs : List V} {us : List Value} (h : Vals xs us) : Vals xs.reverse us.reverse := by
  induction h with
  | nil => exact .nil
  | cons r t ih => rw [List.reverse_cons, List.reverse_cons]; exact Vals.append ih (.cons r .nil)
theorem Vals.rep {xs : List V} {us : List Value} (h : Vals xs us) : ∀ k : Nat, Vals (List.replicate k xs).flatten (List.replicate k us).flatten
  | 0 => .nil
  | k + 1 => by
    rw [List.replicate_succ, List.replicate_succ, List.flatten_cons, List.flatten_cons]
    exact Vals.append h (Vals.rep h k)
theorem len_erase {α : Type} : ∀ (l : List α) (i : Nat), (l.eraseIdx i).length ≤ l.length
  | [], _ => Nat.le_refl _
  | _ :: _, 0 => Nat.le_succ _
  | _ :: r, i + 1 => Nat.succ_le_succ (len_erase r i)
theorem foldl_rep (its : List Value) : ∀ (k : Nat) (acc : List Value),
    List.foldl (fun x1 x2 => x1 ++ x2) acc.toArray (List.replicate k its.toArray) = (acc ++ (List.replicate k its).flatten).toArray
  | 0, acc => by simp
  | k + 1, acc => by
    have e : acc.toArray ++ its.toArray = (acc ++ its).toArray := by simp
    have e2 : (acc ++ its) ++ (List.replicate k its).flatten = acc ++ (List.replicate (k + 1) its).flatten := by
      rw [List.replicate_succ, List.flatten_cons, List.append_assoc]
    rw [← e2, ← foldl_rep its k (acc ++ its), ← e, List.replicate_succ, List.foldl_cons]
section
variable {X : Cx} {pins : List (Addr × Obj)} {σ : St} {H : Hp} {s : Shared} {l b : Addr} {xs ys zs : List V}
theorem Inv.lset {its its' : List Value} {n : Nat} {f : Array Value → Array Value} {t' : Nat} (I : Inv X pins σ H s) (hH : H l = some (.lst xs))
    (e : s.heap.get? l = some { cls := .type "list", data := .seq its.toArray n }) (hf : f its.toArray = its'.toArray) (hv : Vals ys its') (hz : ys.length ≤ sizeLine) :
    Inv X pins σ (upd H l (.lst ys)) { s with heap := s.heap.update l (Obj.mapSeq f), toks := t' } := by
  have q := PySem.IsL.update e f
  rw [hf] at q
  refine I.write (x := l) (e := l) (by rw [hH]; exact trivial) (.inl rfl) (fun b' u hb hu => (Heap.get?_update_other s.heap (Obj.mapSeq f) (Ne.symm hb)).trans hu) ⟨_, q⟩ ?_
  exact ⟨hz, its', _, hv, q⟩
theorem Inv.lnew {its : List Value} {t' : Nat} (I : Inv X pins σ H s) (hv : Vals ys its) (hz : ys.length ≤ sizeLine) :
    Inv X pins σ (upd H s.heap.objs.size (.lst ys)) { s with heap := s.heap.push { cls := .type "list", data := .seq its.toArray }, toks := t' } :=
  I.laid (fun _ _ q => Heap.get?_push_of_some _ q) (Nat.le_refl _) ⟨hz, its, 0, hv, Heap.get?_push_size _ rfl⟩
theorem Inv.fresh (I : Inv X pins σ H s) : H s.heap.objs.size = none := I.hok.fresh (Nat.le_refl _)
theorem Inv.lstM (I : Inv X pins σ H s) (hH : H l = some (.lst xs)) : xs.length ≤ sizeLine ∧ ∃ (its : List Value) (n : Nat), Vals xs its ∧ xs.length = its.length ∧ s.heap.get? l = some { cls := .type "list", data := .seq its.toArray n } := by
  obtain ⟨z, its, n, r, e⟩ := I.hok l _ hH
  exact ⟨z, its, n, r, r.length, e⟩
theorem notLongL {n : Nat} (h : n ≤ sizeLine) : Builtin.List.listTooLong n = false := by
  unfold Builtin.List.listTooLong
  exact decide_eq_false (by omega)
end
section
variable {X : Cx}
noncomputable def rAppend : V → List V → Hp → VK → Prop := fun x vs H Q => ∃ l xs y, x = .ref l ∧ vs = [y] ∧ H l = some (.lst xs) ∧ xs.length < sizeLine ∧ Q .non (upd H l (.lst (xs ++ [y])))
theorem mt_append : MtM X "list.append" rAppend := by
  intro pins s σ H x vs v us Q I rx rv h
  obtain ⟨l, xs, y, rfl, rfl, hH, hz, q⟩ := h
  cases rx
  obtain ⟨u, rfl, ru⟩ := rv.one
  obtain ⟨z, its, n, r, hl, e⟩ := I.lstM hH
  refine call_meets F.slot_list_append ⟨_, e, rfl⟩ F.entry_list_append (F.args_list_append_2 _ _) (PySem.list_append l its.toArray n u (by rw [List.size_toArray]; omega)) ⟨e, ?_⟩
  refine ⟨.non, _, I.lset (its' := its ++ [u]) hH e (by simp) (r.append (.cons ru .nil)) ?_, rfl, q⟩
  rw [List.length_append, List.length_singleton]
  omega
noncomputable def rPopAt : V → List V → Hp → VK → Prop := fun x vs H Q => ∃ l xs i k y, x = .ref l ∧ vs = [.int i] ∧ H l = some (.lst xs) ∧ -(2 ^ 63) ≤ i ∧ i < 2 ^ 63 ∧ seqIndex? i xs.length = some k ∧ xs[k]? = some y ∧ Q y (upd H l (.lst (xs.eraseIdx k)))
theorem mt_popAt : MtM X "list.pop" rPopAt := by
  intro pins s σ H x vs v us Q I rx rv h
  obtain ⟨l, xs, i, k, y, rfl, rfl, hH, h1, h2, hk, hy, q⟩ := h
  cases rx
  obtain ⟨u, rfl, ru⟩ := rv.one
  obtain ⟨t, rfl⟩ := ru
  obtain ⟨z, its, n, r, hl, e⟩ := I.lstM hH
  obtain ⟨w, hw, rw'⟩ := r.get hy
  refine call_meets F.slot_list_pop ⟨_, e, rfl⟩ F.entry_list_pop (F.args_list_pop_2 _ _)
    (MeetsSeq.list_pop_at l its.toArray n i t k w (fitsIndex_both h1 h2) (by rw [List.size_toArray, ← hl]; exact hk) (by rw [← Array.getElem?_toList]; exact hw) (by rw [List.size_toArray]; omega)) ⟨e, ?_⟩
  refine ⟨y, _, I.lset (its' := its.eraseIdx k) hH e ?_ (r.eraseIdx k) ?_, rw', q⟩
  · show its.toArray.eraseIdxIfInBounds k = (its.eraseIdx k).toArray
    rw [List.eraseIdxIfInBounds_toArray]
  · have := len_erase xs k
    omega
theorem len_rep {α : Type} (xs : List α) (k : Nat) : (List.replicate k xs).flatten.length = k * xs.length := by
  induction k with
  | zero => simp
  | succ k ih => rw [List.replicate_succ, List.flatten_cons, List.length_append, ih, Nat.succ_mul, Nat.add_comm]
end
section
variable {prog : Program} {w : World} {A : Around} {E : Value → Shared → Prop} {s : Shared}
end
section
variable {X : Cx}
end
end L2
namespace L2
open PySem PySem.Spec PyProof.Rows
section
variable {κ : Type} [DecidableEq κ]
noncomputable def valV (kvs : List (κ × V)) (k : κ) : Option V := (kvs.find? fun kv => decide (kv.1 = k)).map (·.2)
noncomputable def putK (kvs : List (κ × V)) (k : κ) (v : V) : List (κ × V) :=
  if (kvs.any fun kv => decide (kv.1 = k)) = true then kvs.map (fun kv => if kv.1 = k then (kv.1, v) else kv) else kvs ++ [(k, v)]
noncomputable def dropK (kvs : List (κ × V)) (k : κ) : List (κ × V) := kvs.filter fun kv => decide (kv.1 ≠ k)
theorem valV_pos {p : κ × V} {r : List (κ × V)} {k : κ} (e : p.1 = k) : valV (p :: r) k = some p.2 := by simp [valV, List.find?_cons, e]
theorem valV_neg {p : κ × V} {r : List (κ × V)} {k : κ} (e : ¬ p.1 = k) : valV (p :: r) k = valV r k := by simp [valV, List.find?_cons, e]
theorem valV_any (k : κ) : ∀ kvs : List (κ × V), (kvs.any fun kv => decide (kv.1 = k)) = (valV kvs k).isSome
  | [] => rfl
  | p :: r => by
    rw [List.any_cons]
    by_cases e : p.1 = k
    · simp only [valV_pos e, decide_eq_true e, Bool.true_or, Option.isSome_some]
    · rw [valV_neg e, decide_eq_false e, Bool.false_or]; exact valV_any k r
theorem RelO.isSome_eq {o : Option V} {u : Option Value} (r : RelO o u) : o.isSome = u.isSome := by
  cases o with
  | none => cases u with
    | none => rfl
    | some _ => exact (show False from r).elim
  | some _ => cases u with
    | none => exact (show False from r).elim
    | some _ => rfl
theorem RelO.getD {o : Option V} {u : Option Value} {d : V} {d' : Value} (r : RelO o u) (rd : RelV d d') : RelV (o.getD d) (u.getD d') := by
  cases o with
  | none => cases u with
    | none => exact rd
    | some _ => exact (show False from r).elim
  | some _ => cases u with
    | none => exact (show False from r).elim
    | some _ => exact r
theorem KV.val {kvs : List (κ × V)} {vs : List (κ × Value)} (r : KV kvs vs) (k : κ) : RelO (valV kvs k) (valueAt vs k) := by
  unfold KV at r
  induction r with
  | nil => exact True.intro
  | @cons p q ps qs h t ih =>
    obtain ⟨h1, h2⟩ := h
    by_cases e : p.1 = k
    · have e' : q.1 = k := h1.symm.trans e
      have b : valueAt (q :: qs) k = some q.2 := by simp [valueAt, List.find?_cons, e']
      rw [valV_pos e, b]; exact h2
    · have e' : ¬ q.1 = k := fun z => e (h1.trans z)
      have b : valueAt (q :: qs) k = valueAt qs k := by simp [valueAt, List.find?_cons, e']
      rw [valV_neg e, b]; exact ih
theorem KV.any {kvs : List (κ × V)} {vs : List (κ × Value)} (r : KV kvs vs) (k : κ) : (kvs.any fun kv => decide (kv.1 = k)) = vs.any fun kv => decide (kv.1 = k) := by
  unfold KV at r
  induction r with
  | nil => rfl
  | cons h t ih => rw [List.any_cons, List.any_cons, ih, h.1]
theorem KV.repl {kvs : List (κ × V)} {vs : List (κ × Value)} (r : KV kvs vs) (k : κ) {y : V} {u : Value} (ry : RelV y u) :
    KV (kvs.map fun kv => if kv.1 = k then (kv.1, y) else kv) (vs.map fun kv => if kv.1 = k then (kv.1, u) else kv) := by
  unfold KV at r ⊢
  induction r with
  | nil => exact .nil
  | @cons p q ps qs h t ih =>
    rw [List.map_cons, List.map_cons]
    refine .cons ?_ ih
    obtain ⟨h1, h2⟩ := h
    by_cases e : p.1 = k
    · rw [if_pos e, if_pos (h1.symm.trans e)]; exact ⟨h1, ry⟩
    · rw [if_neg e, if_neg (fun z => e (h1.trans z))]; exact ⟨h1, h2⟩
theorem KV.put {kvs : List (κ × V)} {vs : List (κ × Value)} (r : KV kvs vs) (k : κ) {y : V} {u : Value} (ry : RelV y u) : KV (putK kvs k y) (stored vs k u) := by
  unfold putK stored
  rw [r.any k]
  by_cases e : (vs.any fun kv => decide (kv.1 = k)) = true
  · rw [if_pos e, if_pos e]; exact r.repl k ry
  · rw [if_neg e, if_neg e]; exact Paired.snoc r ⟨rfl, ry⟩
theorem KV.drop {kvs : List (κ × V)} {vs : List (κ × Value)} (r : KV kvs vs) (k : κ) : KV (dropK kvs k) (without vs k) := by
  unfold KV at r ⊢
  unfold dropK without
  induction r with
  | nil => exact .nil
  | @cons p q ps qs h t ih =>
    obtain ⟨h1, h2⟩ := h
    rw [List.filter_cons, List.filter_cons]
    by_cases e : p.1 = k
    · have a : ¬ decide (p.1 ≠ k) = true := by simp [e]
      have b : ¬ decide (q.1 ≠ k) = true := by simp [h1.symm.trans e]
      rw [if_neg a, if_neg b]; exact ih
    · have e' : ¬ q.1 = k := fun z => e (h1.trans z)
      have a : decide (p.1 ≠ k) = true := by simp [e]
      have b : decide (q.1 ≠ k) = true := by simp [e']
      rw [if_pos a, if_pos b]; exact .cons ⟨h1, h2⟩ ih
theorem KV.keys {kvs : List (κ × V)} {vs : List (κ × Value)} (r : KV kvs vs) : kvs.map (·.1) = vs.map (·.1) := by
  unfold KV at r
  induction r with
  | nil => rfl
  | cons h t ih => rw [List.map_cons, List.map_cons, ih, h.1]
theorem KV.length {kvs : List (κ × V)} {vs : List (κ × Value)} (r : KV kvs vs) : kvs.length = vs.length := Paired.length r
end
noncomputable abbrev KT (H : Hp) : List (List Key × V) → List (List Key × Addr × Value) → Prop := Paired fun p q => p.1 = q.1 ∧ H q.2.1 = some (.tup (p.1.map kV)) ∧ RelV p.2 q.2.2
theorem KT.val {H : Hp} {kvs : List (List Key × V)} {xs : List (List Key × Addr × Value)} (r : KT H kvs xs) (k : List Key) : RelO (valV kvs k) ((atKey xs k).map (·.2)) := by
  induction r with
  | nil => exact True.intro
  | @cons p q ps qs h t ih =>
    obtain ⟨h1, _, h2⟩ := h
    by_cases e : p.1 = k
    · have e' : q.1 = k := h1.symm.trans e
      have b : atKey (q :: qs) k = some q.2 := by simp [atKey, List.find?_cons, e']
      rw [valV_pos e, b]; exact h2
    · have e' : ¬ q.1 = k := fun z => e (h1.trans z)
      have b : atKey (q :: qs) k = atKey qs k := by simp [atKey, List.find?_cons, e']
      rw [valV_neg e, b]; exact ih
theorem KT.repl {H : Hp} {kvs : List (List Key × V)} {xs : List (List Key × Addr × Value)} (r : KT H kvs xs) (k : List Key) {y : V} {u : Value} (ry : RelV y u) :
    KT H (kvs.map fun kv => if kv.1 = k then (kv.1, y) else kv) (xs.map (putAt k u)) := by
  induction r with
  | nil => exact .nil
  | @cons p q ps qs h t ih =>
    rw [List.map_cons, List.map_cons]
    refine .cons ?_ ih
    obtain ⟨h1, h2, h3⟩ := h
    unfold putAt
    by_cases e : p.1 = k
    · rw [if_pos e, if_pos (h1.symm.trans e)]; exact ⟨h1, h2, ry⟩
    · rw [if_neg e, if_neg (fun z => e (h1.trans z))]; exact ⟨h1, h2, h3⟩
theorem KT.put {H : Hp} {kvs : List (List Key × V)} {xs : List (List Key × Addr × Value)} (r : KT H kvs xs) (k : List Key) {b : Addr} {y : V} {u : Value} (hb : H b = some (.tup (k.map kV))) (ry : RelV y u) :
    KT H (putK kvs k y) (storedH xs k b u) := by
  have e : (kvs.any fun kv => decide (kv.1 = k)) = (atKey xs k).isSome := by
    rw [valV_any, (r.val k).isSome_eq, Option.isSome_map]
  unfold putK storedH
  rw [e]
  by_cases q : (atKey xs k).isSome = true
  · rw [if_pos q, if_pos q]; exact r.repl k ry
  · rw [if_neg q, if_neg q]; exact Paired.snoc r ⟨rfl, hb, ry⟩
theorem KT.keeps {H H' : Hp} {kvs : List (List Key × V)} {xs : List (List Key × Addr × Value)} (r : KT H kvs xs) (ht : ∀ b ys, H b = some (.tup ys) → H' b = some (.tup ys)) : KT H' kvs xs :=
  Paired.mapP r fun _ _ z => ⟨z.1, ht _ _ z.2.1, z.2.2⟩
section
variable {P : Program} {w : World} {H : Hp} {h : Heap} {a : Addr}
theorem rd_of {u : HO} (ok : HOk P w H h) (e : Rd H a u) : ObjOk P w H h a u := e.ok ok
theorem dk_rd {kvs : List (Key × V)} (ok : HOk P w H h) (e : Rd H a (.dK kvs)) : kvs.length ≤ sizeLine ∧ (a == sysModules) = false ∧ ∃ vs, KV kvs vs ∧ h.DictOf (mixKind P w) a vs :=
  show ObjOk P w H h a (.dK kvs) from rd_of ok e
end
noncomputable def DGet (H : Hp) (a : Addr) (y : V) (r : Option V) : Prop :=
  (∃ kvs k, Rd H a (.dK kvs) ∧ y = kV k ∧ r = valV kvs k) ∨ ∃ kvs k b, Rd H a (.dT kvs) ∧ y = .ref b ∧ H b = some (.tup (k.map kV)) ∧ r = valV kvs k
noncomputable def DPut (H : Hp) (a : Addr) (y v : V) (H' : Hp) : Prop :=
  (∃ kvs k, H a = some (.dK kvs) ∧ y = kV k ∧ kvs.length < sizeLine ∧ H' = upd H a (.dK (putK kvs k v))) ∨
  ∃ kvs k b, H a = some (.dT kvs) ∧ y = .ref b ∧ H b = some (.tup (k.map kV)) ∧ kvs.length < sizeLine ∧ H' = upd H a (.dT (putK kvs k v))
theorem DGet.k {H : Hp} {a : Addr} {kvs : List (Key × V)} {k : Key} (e : H a = some (.dK kvs)) : DGet H a (kV k) (valV kvs k) := .inl ⟨kvs, k, .inl e, rfl, rfl⟩
theorem DGet.t {H : Hp} {a b : Addr} {kvs : List (List Key × V)} {k : List Key} (e : H a = some (.dT kvs)) (eb : H b = some (.tup (k.map kV))) : DGet H a (.ref b) (valV kvs k) := .inr ⟨kvs, k, b, .inl e, rfl, eb, rfl⟩
theorem DPut.k {H : Hp} {a : Addr} {kvs : List (Key × V)} {k : Key} {v : V} (e : H a = some (.dK kvs)) (hl : kvs.length < sizeLine) : DPut H a (kV k) v (upd H a (.dK (putK kvs k v))) := .inl ⟨kvs, k, e, rfl, hl, rfl⟩
theorem DPut.t {H : Hp} {a b : Addr} {kvs : List (List Key × V)} {k : List Key} {v : V} (e : H a = some (.dT kvs)) (eb : H b = some (.tup (k.map kV))) (hl : kvs.length < sizeLine) :
    DPut H a (.ref b) v (upd H a (.dT (putK kvs k v))) := .inr ⟨kvs, k, b, e, rfl, eb, hl, rfl⟩
section
variable {X : Cx} {pins : List (Addr × Obj)} {σ : St} {H : Hp} {s : Shared} {a : Addr} {y v : V} {u r : Value} {o : Option V} {A : Around} {E : Value → Shared → Prop}
theorem Inv.big (I : Inv X pins σ H s) : sysModules < s.heap.objs.size := by
  have h : mainGlobals < s.heap.objs.size := (I.mod.glob.keeps I.bk).lt
  exact Nat.lt_trans (by decide) h
end
section
variable {X : Cx} {pins : List (Addr × Obj)} {σ : St} {H : Hp} {s : Shared} {a : Addr} {kvs : List (Key × V)} {k : Key} {u : Value} {A : Around} {E : Value → Shared → Prop}
theorem d_len {Q : Value → Shared → Prop} (I : Inv X pins σ H s) (e : Rd H a (.dK kvs)) (h : ∀ t s', Inv X pins σ H s' → Q (.int kvs.length t) s') : wpAny (model X.prog X.w) A (call (.builtin "len") [.ref a]) Q E s := by
  obtain ⟨z, hd, vs, rel, dd⟩ := dk_rd I.hok e
  refine call_len_dict hd dd (by rw [← rel.length]; rw [sizeLine_eq] at z; omega) ?_
  rw [← rel.length]
  exact h _ _ (I.tok _)
end
section
variable {X : Cx} {o i e value : Expr} {pos pos' tpos : Pos} {td ty tv : TE}
end
section
variable {X : Cx} {pos : Pos}
end
noncomputable def tPairs : List (TE × TE) → St → Hp → (List (V × V) → Hp → Prop) → Prop
  | [], _, H, Q => Q [] H
  | (tk, tv) :: r, σ, H, Q => tk σ H fun x H1 => tv σ H1 fun y H2 => tPairs r σ H2 fun ps H3 => Q ((x, y) :: ps) H3
noncomputable abbrev VV : List (V × V) → List (Value × Value) → Prop := Paired fun p q => RelV p.1 q.1 ∧ RelV p.2 q.2
noncomputable def PPs (X : Cx) (pos : Pos) (keys : List (Option Expr)) (values : List Expr) (trs : List (TE × TE)) : Prop :=
  ∀ (pins : List (Addr × Obj)) (s : Shared) (σ : St) (H : Hp) (Q : List (V × V) → Hp → Prop), Inv X pins σ H s → tPairs trs σ H Q →
    wpAny (model X.prog X.w) X.A (evalPairs (pairTrees keys values X.env pos)) (fun vs s' => ∃ ps H', Inv X pins σ H' s' ∧ VV ps vs ∧ Q ps H') X.xe s
structure M1 (X : Cx) (o : Expr) (m : Str) (apos : Pos) (e : Expr) (cpos : Pos) : Prop where
  base : attributeBase o m X.env (eval o X.env) = eval o X.env
  few : ((backTo cpos (starEach [e] X.env)).all (fun x => !x.1) && (backToKw cpos (keywordEach [] X.env)).all (fun x => x.1.isSome)
    && decide (([e] : List Expr).length + ([] : List Keyword).length + (if ([] : List Keyword).isEmpty then 0 else 1) < 30)) = true
  line : (apos.endLine == cpos.line) = true
  trees : backTo cpos (starEach [e] X.env) = [(false, eval e X.env)]
structure M2 (X : Cx) (o : Expr) (m : Str) (apos : Pos) (e f : Expr) (cpos : Pos) : Prop where
  base : attributeBase o m X.env (eval o X.env) = eval o X.env
  few : ((backTo cpos (starEach [e, f] X.env)).all (fun x => !x.1) && (backToKw cpos (keywordEach [] X.env)).all (fun x => x.1.isSome)
    && decide (([e, f] : List Expr).length + ([] : List Keyword).length + (if ([] : List Keyword).isEmpty then 0 else 1) < 30)) = true
  line : (apos.endLine == cpos.line) = true
  trees : backTo cpos (starEach [e, f] X.env) = [(false, eval e X.env), (false, eval f X.env)]
section
variable {X : Cx} {pins : List (Addr × Obj)} {σ : St} {H : Hp} {s : Shared} {a : Addr} {y d : V} {u r : Value} {o : Option V} {A : Around} {E : Value → Shared → Prop}
end
section
variable {X : Cx} {o e f : Expr} {apos cpos : Pos} {td ty tx : TE}
end
section
variable {X : Cx} {pins : List (Addr × Obj)} {σ : St} {H : Hp} {s : Shared} {a : Addr} {kvs : List (Key × V)} {A : Around} {E : Value → Shared → Prop}
end
section
variable {X : Cx} {pins : List (Addr × Obj)} {σ : St} {H : Hp} {s : Shared} {a : Addr} {y : V} {u : Value} {A : Around} {E : Value → Shared → Prop}
end
end L2
namespace Att
open PySem PySem.W PySem.Calls PyProof.Rows
theorem ints_of_wellAll {P : Params} {h : Heap} : ∀ (ns : List Int) (vs : List Value), WellAll P h vs (ns.map WData.int) → IntsAre vs ns := by
  intro ns
  induction ns with
  | nil =>
    intro vs w
    rw [List.map_nil] at w
    cases w
    exact .nil
  | cons n ns ih =>
    intro vs w
    rw [List.map_cons] at w
    cases w with
    | cons a b =>
      cases a
      exact .cons _ _ (ih _ b)
theorem script_of {l : OpenLaw} {n : Nat} (hn : l.most = some n) {P : Params} {h : Heap} {args : List WData} {vals : List Value}
    (hpre : l.row.toRowW.claim.pre args = true) (hwl : WellAll P h vals args) :
    ∃ a vs ns, vals = [Value.ref a] ∧ args = [WData.list (ns.map WData.int)] ∧ h.get? a = some { cls := .type "list", data := .seq vs.toArray } ∧ IntsAre vs ns ∧ ns.length ≤ n := by
  have hsh : WShape.hasAll [] args [.list .int] = true := (pre_splitW hpre).1
  have hc : l.pre.holds [] { args := args } = true := (pre_splitW hpre).2
  obtain ⟨d, r, rfl, h1, h2⟩ := hasAllW_cons hsh
  obtain rfl := hasAllW_nil h2
  obtain ⟨xs, rfl, h3⟩ := hasW_list h1
  obtain ⟨ns, rfl⟩ := items_int h3
  have hlen : ns.length ≤ n := by
    unfold OpenLaw.pre at hc
    have h4 : (WTm.not (.lt (.lit (.int (n : Int))) (.len (.arg 0)))).holds [] { args := [.list (ns.map .int)] } = true := by
      have h4 := (holds_andW hc).1
      rw [hn] at h4
      exact h4
    have h5 := condW_of h4 (w_not (w_lt w_lit (w_len_list (w_arg rfl))))
    rw [List.length_map] at h5
    refine Nat.le_of_not_lt fun q => ?_
    have q' : (n : Int) < ((ns.length : Nat) : Int) := by omega
    first
      | (rw [decide_eq_true q'] at h5; exact absurd h5 (by decide))
      | (simp at h5; omega)
  cases hwl with
  | cons w1 w2 =>
    cases w2
    cases w1 with
    | list ho hall => exact ⟨_, _, ns, rfl, rfl, ho, ints_of_wellAll ns _ hall, hlen⟩
theorem post_true (l : OpenLaw) (args : List WData) : l.row.toRowW.claim.post args (.bool true) args = true :=
  postW_of (r := l.row.toRowW) (X := (true == true))
    (show WShape.has [] (.bool true) .bool = true by first | rfl | decide | simp [WShape.has, WShape.arms, WShape.armsAll])
    (show (WTm.eq .res (.lit (.bool true))).value [] { args := args, res := some (.bool true), after := args } = some (.bool (true == true)) from w_eq_bool (w_res rfl) w_lit) rfl
theorem attach_call {l : OpenLaw} {n : Nat} {q : Program} {loose : List Str} {XP : (Str → Option Value) → Heap → Prop} {YP : World → Heap → Prop} {d : DefRec}
    (hn : l.most = some n) (hdf : d.params.defaults = [])
    (call : ∀ (w : World) (s₀ s₁ : Shared) (mg mb : Str → Option Value) (fa : Addr) (o : Obj) (pm cd doc : Value) (a : Addr) (vs : List Value) (ns : List Int),
      Ground q loose [] XP w s₀ mg mb s₁.heap → YP w s₁.heap →
      s₁.heap.get? fa = some o → o.data = .func (docDef d.name d.params d.body d.scope pm cd doc) → s₁.heap.CodeRec cd d.name → mg d.name = some (.ref fa) →
      s₁.heap.get? a = some { cls := .type "list", data := .seq vs.toArray } → IntsAre vs ns → ns.length ≤ n → s₁.gens = #[] →
      codeAny (model l.prog w) callerA (.call (.ref fa) ⟨[.ref a], []⟩) (fun r s' => r = .ok (.ret (.bool true)) ∧ OldK s₁.heap s'.heap ∧ s'.os = s₁.os ∧ AllBare s'.gens) s₁) :
    WalkO q loose XP YP l.row.toRowW d [] (fun f vs => PySem.call f vs) := by
  intro w s₀ s₁ mg mb G Y fa o pm cd doc dV kV ho hd hcd hD hmg hg args vals as hpre hlay hrd hwl hlo
  obtain rfl : dV = .none := Dflts.none hD hdf
  obtain rfl : kV = .none := Dflts.noKw hD
  obtain ⟨a, vs, ns, rfl, rfl, hobj, hints, hlen⟩ := script_of hn hpre hwl
  refine enter_call (codeAny_mono (call w s₀ s₁ mg mb fa o pm cd doc a vs ns G Y ho (fd_plain hd) hcd hmg hobj hints hlen hg) fun r s' hq => ?_)
  obtain ⟨rfl, h2, h3, h4⟩ := hq
  exact ⟨.inl ⟨.bool true, .bool true, [], rfl, fun _ => rfl, .bool true, post_true l _, fun _ => ⟨List.Pairwise.nil, fun _ hm => (nomatch hm)⟩⟩, h2, h3, h4⟩
section
variable {prog : Program} {w : World} {A : Around} {E : Value → Shared → Prop} {s : Shared} {K : Frag}
end
end Att
namespace L2
open PySem PySem.Spec PyProof.Rows
theorem vals_ints : ∀ {vs : List Value} {ns : List Int}, IntsAre vs ns → Vals (ns.map V.int) vs
  | _, _, .nil => .nil
  | _, _, .cons n t h => .cons ⟨t, rfl⟩ (vals_ints h)
noncomputable def Only (H : Hp) : Prop := ∀ b, H b = none ∨ ∃ o xs, H b = some (.frz o (.lst xs))
theorem law_call {P : Program} {w : World} {K : PySem.W.Frag} {mg mb : Str → Option Value} {CX : CXT} {k : Nat} {fa a : Addr} {fd : FuncData} {x : Str} {sp : Sp} {s₁ : Shared} {vs : List Value} {ns : List Int}
    (KX : K.In s₁.heap) (hns : s₁.heap.Ns mainGlobals mg) (hb : s₁.heap.Ns builtinsNs mb) (hbb : ∀ x : Str, x ≠ "__name__" → mb x = bootBuiltins x) (hlim : s₁.heap.NoLimit) (hg : s₁.gens = #[])
    (ha : s₁.heap.get? a = some { cls := .type "list", data := .seq vs.toArray }) (hi : IntsAre vs ns) (hl : ns.length ≤ sizeLine) (hr : Room k callerA)
    (F : ∀ base : Heap, K.In base → base.Ns mainGlobals mg → FnOk P w K mg base CX k fa fd [x] sp) (hbind : ∀ (s : Shared) (u : Value), BindsTo s fd ⟨[u], []⟩ [(x, u)])
    (hsp : ∀ H : Hp, Only H → SqL K H a (ns.map V.int) → sp [.ref a] H (fun v _ => v = .bl true) fun _ _ _ => False)
    (hCX : ∀ H e s', CX [] H s₁ (fun _ _ _ => False) e s' → False) :
    codeAny (model P w) callerA (.call (.ref fa) ⟨[.ref a], []⟩) (fun r s' => r = .ok (.ret (.bool true)) ∧ OldK s₁.heap s'.heap ∧ s'.os = s₁.os ∧ AllBare s'.gens) s₁ := by
  have rv := vals_ints hi
  have lenV := hi.length
  have core : ∀ H : Hp, Only H → SqL K H a (ns.map V.int) → HOk P w H s₁.heap → (∀ b, H b ≠ none → b = a) → (H a ≠ none → K.lookup a = none) →
      codeAny (model P w) callerA (.call (.ref fa) ⟨[.ref a], []⟩) (fun r s' => r = .ok (.ret (.bool true)) ∧ OldK s₁.heap s'.heap ∧ s'.os = s₁.os ∧ AllBare s'.gens) s₁ := by
    intro H hO hS hok hA hK
    have base_of : ∀ {b : Addr} {o : Obj}, s₁.heap.get? b = some o → H b = none → (hidT s₁.heap H).get? b = some o := fun e n => hidT_get e n
    have noA : ∀ {b : Addr} {o : Obj} {es : Array DictEntry} {ep : Nat}, s₁.heap.get? b = some o → o.data = .dict es ep → H b = none := fun {b o es ep} e d => by
      cases q : H b with
      | none => rfl
      | some u =>
        have e' : b = a := hA b (by rw [q]; simp)
        subst e'
        rw [ha] at e; cases e
        have d' : Data.seq vs.toArray _ = Data.dict es ep := d
        cases d'
    have nsK : ∀ {b : Addr} {m : Str → Option Value}, s₁.heap.Ns b m → (hidT s₁.heap H).Ns b m := fun {b m} ⟨o, es, ep, e, d, r⟩ => ⟨o, es, ep, base_of e (noA e d), d, r⟩
    have hKb : K.In (hidT s₁.heap H) := fun b o e => base_of (KX b o e) (by
      cases q : H b with
      | none => rfl
      | some u =>
        have e' : b = a := hA b (by rw [q]; simp)
        subst e'
        rw [hK (by rw [q]; simp)] at e; cases e)
    have hM : Mod K mg (hidT s₁.heap H) := ⟨hKb, nsK hns, ⟨mb, nsK hb, hbb⟩, let ⟨mc, h1, h2⟩ := hlim; ⟨mc, nsK h1, h2⟩⟩
    have e0 : Env0 P w K mg (hidT s₁.heap H) callerA [] s₁ H := ⟨rfl, hM, fun b o e => of_hidT e, Nat.le_of_eq (hidT_size _ _), trivial, fun b hb => absurd (show b ∈ ([] : List Addr) from hb) (by simp), hok, .of_eq hg⟩
    refine codeAny_mono ((F _ hKb (nsK hns)).run callerA [] s₁ H ⟨[.ref a], []⟩ [.ref a] [.ref a] _ _ hr e0 (hbind s₁ (.ref a)) (.cons rfl .nil) (hsp H hO hS)) fun r s' h => ?_
    cases r with
    | error e => exact (hCX H e s' h).elim
    | ok fl =>
      cases fl with
      | next => exact False.elim h
      | brk => exact False.elim h
      | cont => exact False.elim h
      | ret u =>
        obtain ⟨v, H', os, bare, un, hok', r', q⟩ := h
        have q' : v = .bl true := q
        subst q'
        obtain rfl : u = Value.bool true := r'
        refine ⟨rfl, OldK.of_keep fun b o e => ?_, os, bare⟩
        cases q : H b with
        | none => exact un.keep b o e q (by intro z; exact absurd (show b ∈ ([] : List Addr) from z) (by simp)) (by simp)
        | some u =>
          rcases hO b with z | ⟨ob, xs, z⟩
          · rw [q] at z; cases z
          · have z2 := un.frzs b ob _ z
            obtain ⟨e1, _⟩ := hok b _ z
            obtain ⟨e2, _⟩ := hok' b _ z2
            rw [e] at e1; cases e1
            exact e2
  cases hk : K.lookup a with
  | some o =>
    have e := KX a o hk
    rw [ha] at e
    cases e
    refine core (fun _ => none) (fun _ => .inl rfl) (.inr ⟨_, vs.toArray, _, hk, rfl, rfl, rfl, by rw [List.size_toArray, lenV]; exact hl, by simpa using rv⟩) (fun b u z => by have z' : (none : Option HO) = some u := z; cases z') (fun b z => absurd rfl z) fun z => absurd rfl z
  | none =>
    refine core (fun b => if b = a then some (.frz { cls := .type "list", data := .seq vs.toArray } (.lst (ns.map V.int))) else none) (fun b => ?_) (.inl (.inr ⟨{ cls := .type "list", data := .seq vs.toArray }, if_pos rfl⟩)) (fun b u z => ?_) (fun b z => ?_) fun _ => hk
    · by_cases hb : b = a
      · exact .inr ⟨_, _, if_pos hb⟩
      · exact .inl (if_neg hb)
    · by_cases hb : b = a
      · have z' := (if_pos hb).symm.trans z
        cases z'
        subst hb
        exact ⟨ha, by rw [List.length_map]; exact hl, vs, _, rv, ha⟩
      · have z' := (if_neg hb).symm.trans z
        cases z'
    · by_cases hb : b = a
      · exact hb
      · exact absurd (if_neg hb) z
end L2
namespace L2
open PySem PySem.Spec PyProof.Rows
theorem walk_of {l : PySem.W.OpenLaw} {n k : Nat} {q : Program} {loose : List Str} {XP : (Str → Option Value) → Heap → Prop} {YP : World → Heap → Prop} {d : DefRec} {K : Params → PySem.W.Frag} {CX : World → CXT} {sp : World → Sp} {x : Str}
    (hn : l.most = some n) (hn2 : n ≤ sizeLine) (hdf : d.params.defaults = []) (hr : Room k callerA)
    (hY : ∀ (w : World) (h : Heap), YP w h → (K w.params).In h)
    (F : ∀ (w : World) (mg : Str → Option Value) (fa : Addr) (h : Heap), (K w.params).In h → h.Ns mainGlobals mg → mg d.name = some (.ref fa) →
      ∃ fd : FuncData, (∀ (s : Shared) (u : Value), BindsTo s fd ⟨[u], []⟩ [(x, u)]) ∧
        ∀ base : Heap, (K w.params).In base → base.Ns mainGlobals mg → FnOk l.prog w (K w.params) mg base (CX w) k fa fd [x] (sp w))
    (hsp : ∀ (w : World) (H : Hp) (a : Addr) (ns : List Int), ns.length ≤ n → Only H → SqL (K w.params) H a (ns.map V.int) → sp w [.ref a] H (fun v _ => v = .bl true) fun _ _ _ => False)
    (hCX : ∀ (w : World) (H : Hp) (s : Shared) (e : Value) (s' : Shared), CX w [] H s (fun _ _ _ => False) e s' → False) :
    PySem.W.WalkO q loose XP YP l.row.toRowW d [] (fun f vs => PySem.call f vs) := by
  refine Att.attach_call hn hdf fun w s₀ s₁ mg mb fa o pm cd doc a vs ns G Y ho hd hcd hmg hobj hints hlen hg => ?_
  have KX := hY w _ Y
  obtain ⟨fd, hb, hF⟩ := F w mg fa _ KX G.T.g hmg
  exact law_call KX G.T.g G.T.b G.T.builtins G.T.nolimit hg hobj hints (Nat.le_trans hlen hn2) hr hF hb (fun H hO hS => hsp w H a ns hlen hO hS) fun H e s' => hCX w H s₁ e s'
end L2
namespace L2
open PySem PySem.Spec PyProof.Rows
noncomputable def defArgs (s : Stmt) : Arguments := match s with
  | .FunctionDef _ a _ _ _ _ _ _ _ _ => a
  | _ => { posonlyargs := [], args := [], vararg := none, kwonlyargs := [], kw_defaults := [], kwarg := none, defaults := [] }
noncomputable def defBody (s : Stmt) : List Stmt := match s with
  | .FunctionDef _ _ b _ _ _ _ _ _ _ => b
  | _ => []
noncomputable def defScope (s : Stmt) : Scope := match s with
  | .FunctionDef _ _ _ _ _ _ sc _ _ _ => sc
  | _ => { kind := .function, names := [], isGenerator := false, isCoroutine := false }
noncomputable abbrev CX0 : CXT := fun _ _ _ _ _ _ => False
noncomputable abbrev E0 : XK := fun _ _ _ => False
theorem pass0 {X : Cx} : Passes CX0 X E0 := fun _ _ _ _ _ _ _ h => h.elim
structure Fun (K : PySem.W.Frag) (x qual : Str) (st : Stmt) (f : Addr) (fd : FuncData) : Prop where
  ex : ∃ (oc : Value) (od : Option Addr) (kV doc pm : Value) (an : Option Addr) (cdv ct : Value) (osl : Array (Option Value)),
    fd = PySem.W.fnOf x qual (defArgs st) (defBody st) (defScope st) .none kV doc pm an cdv ct ∧ K.lookup f = some ⟨oc, od, .func fd, osl⟩ ∧ PySem.W.codeIn K cdv qual = true
  kp : PySem.W.keepIn K (.ref f) = true
section
variable {P : Program} {w : World} {K : PySem.W.Frag} {mg : Str → Option Value} {base : Heap}
theorem Fun.ok {x qual : Str} {st : Stmt} {f : Addr} {fd : FuncData} {N ps : List Str} {k : Nat} {sp : Sp} (F : Fun K x qual st f fd) (S : FnScope N ps (defScope st)) (len : ∀ vs H Q E, sp vs H Q E → vs.length = ps.length)
    (hbody : ∀ (cdv : Value) (A : Around) (outer : List Env) (s : Shared) (H : Hp) (vs : List V) (Q : VK) (E : XK), Room k (A.deeper (envOfC qual (defScope st) s.heap.objs.size f cdv)) → sp vs H Q E →
      ∃ t, PSs (cxOf CX0 P w K mg base N qual (defScope st) f cdv A outer s H E).nox (defBody st) t ∧ t { nx := fun _ H' => Q .non H', rt := Q } (start N vs) H) : FnOk P w K mg base CX0 (k + 1) f fd ps sp := by
  obtain ⟨oc, od, kV, doc, pm, an, cdv, ct, osl, rfl, lk, hcd⟩ := F.ex
  refine fn_of lk hcd S len fun A outer s H vs Q E hr hsp => ?_
  obtain ⟨t, h, q⟩ := hbody cdv A outer s H vs Q E hr hsp
  exact ⟨t, h.nox, q⟩
theorem Fun.binds {x qual : Str} {st : Stmt} {f : Addr} {fd : FuncData} {ps : List Str} (F : Fun K x qual st f fd)
    (h : ∀ (kV doc pm : Value) (an : Option Addr) (cdv ct : Value) (us : List Value), us.length = ps.length → bindArgs (PySem.W.fnOf x qual (defArgs st) (defBody st) (defScope st) .none kV doc pm an cdv ct) ⟨us, []⟩ = pure (ps.zip us)) : Binds K fd ps [] := by
  obtain ⟨oc, od, kV, doc, pm, an, cdv, ct, osl, rfl, lk, hcd⟩ := F.ex
  exact .all (h kV doc pm an cdv ct)
theorem fun_mk {x qual : Str} {st : Stmt} {f : Addr} {oc : Value} {od an : Option Addr} {osl : Array (Option Value)} {kV doc pm cdv ct : Value} (l : K.lookup f = some ⟨oc, od, .func (PySem.W.fnOf x qual (defArgs st) (defBody st) (defScope st) .none kV doc pm an cdv ct), osl⟩)
    (c : PySem.W.codeIn K cdv qual = true) (k : PySem.W.keepIn K (.ref f) = true) : Fun K x qual st f (PySem.W.fnOf x qual (defArgs st) (defBody st) (defScope st) .none kV doc pm an cdv ct) := ⟨⟨oc, od, kV, doc, pm, an, cdv, ct, osl, rfl, l, c⟩, k⟩
end
section
variable {X : Cx}
theorem pv (i : Nat) {x : Str} {pos : Pos} (hN : X.N[i]? = some x := by rfl) (hv : Vis X.env.scope x := by first | exact Or.inl rfl | exact Or.inr (Or.inl rfl) | exact Or.inr (Or.inr rfl)) (hd : (x == ("__debug__" : Str)) = false := by decide)
    (hcd : (x == ("__classdict__" : Str)) = false := by decide) : PE X (.Name x pos) (tVar i) := pe_var hN hv hd hcd
end
theorem iteF {A B : Prop} (h : B) : if false = true then A else B := by
  rw [if_neg Bool.false_ne_true]
  exact h
theorem iteT {A B : Prop} (h : A) : if true = true then A else B := by
  rw [if_pos rfl]
  exact h
noncomputable def Same (H H' : Hp) : Prop := ∀ b o, H b = some o → H' b = some o
theorem Same.refl (H : Hp) : Same H H := fun _ _ h => h
theorem Same.trans {H H1 H2 : Hp} (a : Same H H1) (b : Same H1 H2) : Same H H2 := fun c o h => b c o (a c o h)
theorem Same.free {H H' : Hp} (e : Same H H') {l : Addr} (h : H' l = Option.none) : H l = Option.none := by
  cases q : H l with
  | none => rfl
  | some o =>
    rw [e l o q] at h
    cases h
theorem Same.seq {K : PySem.W.Frag} {H H' : Hp} {a : Addr} {xs : List V} (e : Same H H') (h : SqL K H a xs) : SqL K H' a xs := by
  rcases h with (h | ⟨o, h⟩) | h
  · exact .inl (.inl (e _ _ h))
  · exact .inl (.inr ⟨o, e _ _ h⟩)
  · exact .inr h
end L2
set_option maxHeartbeats 4000000
namespace K1
open PySem
noncomputable def has (signs x : Str) : Bool := x.cps.toList.all fun c => decide (c ∈ signs.cps.toList)
noncomputable def TXT : Str := "abcdefghijklmnopqrstuvwxyz0123456789-"
noncomputable def single : PyData → Bool
  | .int i => decide ((if i < 0 then -i else i) ≤ 10 ^ 18)
  | .str x => decide (x.length ≤ 20) && has TXT x
  | _ => false
noncomputable def maxFrom (best : Int) : List Int → Int
  | [] => best
  | n :: r => maxFrom (if n > best then n else best) r
noncomputable def maxD (d : Int) : List Int → Int
  | [] => d
  | n :: r => maxFrom n r
end K1
namespace L2
open PySem
noncomputable def closOf (env : Env) : List (Str × NameKind) → List (Str × Addr) → List (Str × Addr)
  | [], acc => acc
  | (n, k) :: r, acc => closOf env r (if (k == .free) = true then (n, (env.cells.lookup n).getD 0) :: acc else acc)
theorem clos_fold {env : Env} : ∀ (l : List (Str × NameKind)) (acc : List (Str × Addr)), (∀ x ∈ l, x.2 = .free → ∃ c, env.cells.lookup x.1 = some c) →
    (forIn l acc (fun x r => match x with
      | (name, kind) => if (kind == NameKind.free) = true then (do
          let c ← cellOf env name
          pure (ForInStep.yield ((name, c) :: r))) else pure (ForInStep.yield r)) : Sem (List (Str × Addr))) = pure (closOf env l acc)
  | [], acc, _ => rfl
  | (n, k) :: r, acc, h => by
    rw [List.forIn_cons]
    have hr : ∀ x ∈ r, x.2 = .free → ∃ c, env.cells.lookup x.1 = some c := fun x hx => h x (List.mem_cons_of_mem _ hx)
    cases hk : (k == NameKind.free) with
    | false =>
      have ih := clos_fold r acc hr
      have e : closOf env ((n, k) :: r) acc = closOf env r acc := by simp [closOf, hk]
      rw [e]
      dsimp only
      rw [if_neg (by rw [hk]; exact Bool.false_ne_true)]
      exact ih
    | true =>
      obtain ⟨c, hc⟩ := h (n, k) List.mem_cons_self (by simpa using hk)
      have ih := clos_fold r ((n, c) :: acc) hr
      have hc' : env.cells.lookup n = some c := hc
      have e : closOf env ((n, k) :: r) acc = closOf env r ((n, c) :: acc) := by simp [closOf, hk, hc']
      have e2 : cellOf env n = pure c := by unfold cellOf; rw [hc']
      rw [e]
      dsimp only
      rw [if_pos hk, e2]
      exact ih
theorem closure_eq {scope : Scope} {env : Env} (h : ∀ x ∈ scope.names, x.2 = .free → ∃ c, env.cells.lookup x.1 = some c) : closureFor scope env = pure (closOf env scope.names []) := by
  have q := clos_fold (env := env) scope.names [] h
  unfold closureFor
  exact congrArg (fun t => t >>= fun z => pure z) q
theorem closOf_look {env : Env} : ∀ (l : List (Str × NameKind)) (acc : List (Str × Addr)) (x : Str) (c : Addr), (∀ y d, acc.lookup y = some d → env.cells.lookup y = some d) →
    (∀ y ∈ l, y.2 = .free → ∃ c, env.cells.lookup y.1 = some c) → (closOf env l acc).lookup x = some c → env.cells.lookup x = some c
  | [], acc, x, c, ha, _, e => ha x c e
  | (n, k) :: r, acc, x, c, ha, h, e => by
    have hr : ∀ x ∈ r, x.2 = .free → ∃ c, env.cells.lookup x.1 = some c := fun x hx => h x (List.mem_cons_of_mem _ hx)
    refine closOf_look r _ x c ?_ hr e
    intro y d q
    cases hk : (k == NameKind.free) with
    | false => rw [hk, if_neg Bool.false_ne_true] at q; exact ha y d q
    | true =>
      rw [hk, if_pos rfl] at q
      obtain ⟨c', hc⟩ := h (n, k) List.mem_cons_self (by simpa using hk)
      have hc' : env.cells.lookup n = some c' := hc
      rw [List.lookup_cons] at q
      by_cases z : y = n
      · subst z
        simp [hc'] at q
        rw [hc', q]
      · have z' : (y == n) = false := beq_eq_false_iff_ne.mpr z
        rw [z'] at q
        exact ha y d q
theorem closOf_acc {env : Env} : ∀ (l : List (Str × NameKind)) (acc : List (Str × Addr)) (x : Str), (acc.lookup x).isSome = true → ((closOf env l acc).lookup x).isSome = true
  | [], _, _, h => h
  | (n, k) :: r, acc, x, h => by
    refine closOf_acc r _ x ?_
    cases hk : (k == NameKind.free) with
    | false => rw [if_neg Bool.false_ne_true]; exact h
    | true =>
      rw [if_pos rfl, List.lookup_cons]
      cases z : (x == n) with
      | true => rfl
      | false => exact h
theorem closOf_has {env : Env} : ∀ (l : List (Str × NameKind)) (acc : List (Str × Addr)) (x : Str), (x, NameKind.free) ∈ l → ((closOf env l acc).lookup x).isSome = true
  | [], _, _, h => absurd h (by simp)
  | (n, k) :: r, acc, x, h => by
    rcases List.mem_cons.mp h with e | e
    · cases e
      refine closOf_acc r _ _ ?_
      rw [if_pos (by decide), List.lookup_cons]
      simp
    · exact closOf_has r _ x e
end L2
namespace L2
open PySem PySem.Spec PyProof.Rows
structure CS (osc : Scope) (N : List Str) (x : Str) (scope : Scope) (N' : List Str) : Prop where
  kind : scope.kind = .function
  nocell : ∀ y ∈ scope.names, y.2 ≠ .cell
  names : ∀ y ∈ scope.names, y.2 = .local → scope.names.lookup y.1 = some .local
  hx : scope.names.lookup x = some .local
  only : ∀ y ∈ scope.names, y.2 = .local → y.1 = x ∨ y.1 = ".0"
  free : ∀ y ∈ scope.names, y.2 = .free → osc.names.lookup y.1 = some .cell ∨ osc.names.lookup y.1 = some .free
  nd : (x :: N').Nodup
  n0 : (".0" : Str) ∉ N'
  len : N'.length = N.length
  rel : ∀ p ∈ N'.zip N, p.1 = p.2 ∨ ∀ q ∈ scope.names, q.1 ≠ p.1
theorem CS.at {osc : Scope} {N N' : List Str} {x : Str} {scope : Scope} (S : CS osc N x scope N') {j : Nat} {y : Str} (h : N'[j]? = some y) : N[j]? = some y ∨ ∀ q ∈ scope.names, q.1 ≠ y := by
  have hl : j < N'.length := (List.getElem?_eq_some_iff.mp h).1
  have hl2 : j < N.length := by rw [← S.len]; exact hl
  have m : (N'.zip N)[j]? = some (y, N[j]) := by
    rw [List.getElem?_zip_eq_some]
    exact ⟨h, List.getElem?_eq_getElem hl2⟩
  rcases S.rel _ (List.mem_of_getElem? m) with z | z
  · left
    rw [List.getElem?_eq_getElem hl2]
    exact congrArg some z.symm
  · exact .inr z
theorem look_map {c : Str × NameKind → Bool} : ∀ {names : List (Str × NameKind)} {y : Str} {k' : NameKind},
    (names.map fun p => if (p.2 == NameKind.free && c p) = true then (p.1, NameKind.cell) else (p.1, p.2)).lookup y = some k' → ∃ k, (y, k) ∈ names ∧ (k' = k ∨ (k = .free ∧ k' = .cell))
  | [], _, _, h => by simp at h
  | (n, k) :: r, y, k', h => by
    rw [List.map_cons] at h
    by_cases hy : y = n
    · subst hy
      cases hc : (k == NameKind.free && c (y, k)) with
      | false =>
        simp only [hc, Bool.false_eq_true, if_false, List.lookup_cons, beq_self_eq_true] at h
        cases h
        exact ⟨k, List.mem_cons_self, .inl rfl⟩
      | true =>
        simp only [hc, if_true, List.lookup_cons, beq_self_eq_true] at h
        cases h
        have e : k = .free := by
          have := (Bool.and_eq_true _ _).mp hc
          simpa using this.1
        exact ⟨k, List.mem_cons_self, .inr ⟨e, rfl⟩⟩
    · have hb : (y == n) = false := beq_eq_false_iff_ne.mpr hy
      have h' : (r.map fun p => if (p.2 == NameKind.free && c p) = true then (p.1, NameKind.cell) else (p.1, p.2)).lookup y = some k' := by
        cases hc : (k == NameKind.free && c (n, k)) with
        | false => simp only [hc, Bool.false_eq_true, if_false, List.lookup_cons, hb] at h; exact h
        | true => simp only [hc, if_true, List.lookup_cons, hb] at h; exact h
      obtain ⟨k2, m, e⟩ := look_map h'
      exact ⟨k2, List.mem_cons_of_mem _ m, e⟩
theorem look_relabel {scope : Scope} {env : Env} {y : Str} {k' : NameKind} (h : (relabel scope env).names.lookup y = some k') : ∃ k, (y, k) ∈ scope.names ∧ (k' = k ∨ (k = .free ∧ k' = .cell)) := by
  refine look_map (c := fun p => env.scope.kind == .function && env.kindOf p.1 == some .cell) ?_
  rw [← h]
  unfold relabel
  congr 1
  refine List.map_congr_left fun p _ => ?_
  obtain ⟨n, k⟩ := p
  simp only [Bool.and_assoc]
noncomputable abbrev compCx (X : Cx) (x : Str) (scope : Scope) (C : Addr) (s0 : Shared) (H0 : Hp) (ex : List Addr) (N' : List Str) : Cx where
  prog := X.prog
  w := X.w
  K := X.K
  mg := X.mg
  base := X.base
  A := X.A
  N := x :: N'
  s₀ := s0
  H₀ := H0
  env := compEnvC scope (closOf X.env scope.names []) C X.env
  outer := X.stack
  stack := X.stack
  ex := ex
  fn := fun _ => false
  calm := X.calm
  pn := []
  xe := fun _ _ => False
section
variable {X : Cx} {pins : List (Addr × Obj)} {σ : St} {H : Hp} {s : Shared} {x : Str} {scope : Scope} {N' : List Str}
theorem free_has (I : Inv X pins σ H s) (S : CS X.env.scope X.N x scope N') : ∀ y ∈ scope.names, y.2 = .free → ∃ c, X.env.cells.lookup y.1 = some c := fun y hy e =>
  I.ok.has y.1 (S.free y hy e)
theorem clos_look (I : Inv X pins σ H s) (S : CS X.env.scope X.N x scope N') {y : Str} {c : Addr} (e : (closOf X.env scope.names []).lookup y = some c) : X.env.cells.lookup y = some c :=
  closOf_look scope.names [] y c (fun _ _ z => by simp at z) (free_has I S) e
theorem clos_has (I : Inv X pins σ H s) (S : CS X.env.scope X.N x scope N') {y : Str} (e : (y, NameKind.free) ∈ scope.names) : ∃ c, (closOf X.env scope.names []).lookup y = some c ∧ X.env.cells.lookup y = some c := by
  obtain ⟨c, hc⟩ := Option.isSome_iff_exists.mp (closOf_has (env := X.env) scope.names [] y e)
  exact ⟨c, hc, clos_look I S hc⟩
theorem comp_enter {fp : List Addr} {h' : Heap} {m : Str → Option Value} {tk : Nat} {oD oC : Obj} (I : Inv X pins σ H s) (S : CS X.env.scope X.N x scope N') (hf : ∀ b ∈ fp, FpOk X pins H b) (ho : ∀ b ∈ fp, ∃ o, s.heap.get? b = some o)
    (hns : h'.Ns (s.heap.push oD).objs.size m) (hsb : Heap.SameBut (s.heap.push oD).objs.size ((s.heap.push oD).push oC) h') :
    Inv (compCx X x scope (s.heap.push oD).objs.size { s with heap := s.heap.push oD } H (s.heap.objs.size :: fp) N') [] (none :: σ) H { s with heap := h', toks := tk } := by
  have I3 : Inv X pins σ H { s with heap := s.heap.push oD, toks := s.toks } := I.kept fun b o e => Heap.get?_push_of_some _ e
  have hC : (s.heap.push oD).objs.size = s.heap.objs.size + 1 := Heap.size_push ..
  have up3 : ∀ b o, (s.heap.push oD).get? b = some o → h'.get? b = some o := fun b o e =>
    (hsb.2 b (Nat.ne_of_lt (Heap.lt_size e))).trans (Heap.get?_push_of_some _ e)
  have up : ∀ b o, s.heap.get? b = some o → h'.get? b = some o := fun b o e => up3 b o (Heap.get?_push_of_some _ e)
  have cl := fun {y c} e => clos_look (y := y) (c := c) I S e
  have clt : ∀ y c, X.env.cells.lookup y = some c → c < s.heap.objs.size := fun y c e => let ⟨v, q⟩ := I.cell y c e; q.lt
  have inner : ∀ {y : Str} {k' : NameKind}, (relabel scope X.env).names.lookup y = some k' → (k' = .cell ∨ k' = .free) → (y, NameKind.free) ∈ scope.names := fun {y k'} e hk => by
    obtain ⟨k, mem, r⟩ := look_relabel e
    rcases r with r | ⟨r, _⟩
    · rcases hk with z | z
      · exact absurd (r.symm.trans z) (S.nocell _ mem)
      · rw [← r.symm.trans z]; exact mem
    · rw [← r]; exact mem
  have ok : (compCx X x scope (s.heap.push oD).objs.size { s with heap := s.heap.push oD } H (s.heap.objs.size :: fp) N').Ok := by
    refine ⟨I.ok.mod, S.kind, I.ok.glob, I.ok.blt, Nat.le_refl _, fun y z c e1 e2 => I.ok.inj y z c (cl e1) (cl e2), fun y hk => ?_, fun y c e => (nomatch e), I.ok.hd, I.ok.frames, .inl rfl, fun b hb => ?_, fun b o e => ?_,
      Nat.le_trans (Nat.le_trans I.ok.bsz I.sz) (by show s.heap.objs.size ≤ (s.heap.push oD).objs.size; omega), fun b o e hb => ?_, fun b hb z => ?_, I3.stack, I.stkFree⟩
    · have mem : (y, NameKind.free) ∈ scope.names := by
        rcases hk with z | z
        · exact inner z (.inl rfl)
        · exact inner z (.inr rfl)
      obtain ⟨c, hc, _⟩ := clos_has I S mem
      exact ⟨c, hc⟩
    · rcases List.mem_cons.mp hb with e | e
      · subst e
        exact ⟨by show s.heap.objs.size ≠ (s.heap.push oD).objs.size; omega, fun y c e => Nat.ne_of_lt (clt y c (cl e))⟩
      · obtain ⟨o, q⟩ := ho b e
        have q2 := Heap.lt_size q
        exact ⟨by show b ≠ (s.heap.push oD).objs.size; rw [hC]; exact Nat.ne_of_lt (Nat.lt_succ_of_lt q2), fun y c e' => (hf b e).2.2.2.2.1 y c (cl e')⟩
    · exact ⟨Heap.get?_push_of_some _ (I.bs b o e).1, (I.bs b o e).2⟩
    · rcases List.mem_cons.mp hb with z | z
      · have q2 := Heap.lt_size (I.bs b o e).1
        rw [z] at q2
        exact Nat.lt_irrefl _ q2
      · rcases (hf b z).2.2.2.1 with q | q
        · exact I.ok.noex b o e q
        · have q2 := Heap.lt_size (I.ok.bs b o e).1
          exact Nat.lt_irrefl _ (Nat.lt_of_lt_of_le q2 q)
    · have z' := I.stkSub b z
      rcases List.mem_cons.mp hb with e | e
      · subst e
        rcases List.mem_cons.mp z' with q | q
        · have q2 := I.lt
          rw [← q] at q2
          exact Nat.lt_irrefl _ q2
        · exact I.nofs (Nat.le_refl _) q
      · rcases List.mem_cons.mp z' with q | q
        · exact (hf b e).2.1 q
        · exact (hf b e).2.2.1 q
  obtain ⟨mo, hno, hlo⟩ := I.loc
  refine ⟨ok, rfl, I.bare, Un.kept up3, ⟨m, hns, fun i y v e1 e2 e3 => ?_⟩, fun y c e => ?_, I.hok.fresh (by show s.heap.objs.size ≤ (s.heap.push oD).objs.size; omega), fun y c e => I.freeC y c (cl e), fun p hp => absurd hp (by simp), I.hok.kept up, ?_⟩
  · cases i with
    | zero => simp at e2
    | succ j =>
      have e1n : N'[j]? = some y := by simpa using e1
      have vis : ∃ k, (y, k) ∈ scope.names := by
        rcases (show Vis (relabel scope X.env) y from e3) with z | z | z <;> exact let ⟨k, mem, _⟩ := look_relabel z; ⟨k, mem⟩
      have e1' : X.N[j]? = some y := by
        rcases S.at e1n with z | z
        · exact z
        · obtain ⟨k, mem⟩ := vis
          exact absurd rfl (z _ mem)
      have e2' : σ[j]? = some (some v) := by simpa using e2
      have yx : y ≠ x := fun z => by
        have nd := S.nd
        rw [List.nodup_cons] at nd
        refine nd.1 ?_
        rw [← z]
        exact List.mem_of_getElem? e1n
      have kin : ((relabel scope X.env).names.lookup y = some .cell ∨ (relabel scope X.env).names.lookup y = some .free) := by
        rcases (show Vis (relabel scope X.env) y from e3) with z | z | z
        · obtain ⟨k, mem, r⟩ := look_relabel z
          rcases r with r | ⟨_, r⟩
          · rcases S.only _ mem r.symm with z2 | z2
            · exact absurd z2 yx
            · exact absurd (List.mem_of_getElem? e1n) (by rw [show y = (".0" : Str) from z2]; exact S.n0)
          · cases r
        · exact .inl z
        · exact .inr z
      have mem : (y, NameKind.free) ∈ scope.names := by
        rcases kin with z | z
        · exact inner z (.inl rfl)
        · exact inner z (.inr rfl)
      have vo : Vis X.env.scope y := by
        rcases S.free _ mem rfl with z | z
        · exact .inr (.inl z)
        · exact .inr (.inr z)
      obtain ⟨u, ru, lk⟩ := hlo j y v e1' e2' vo
      refine ⟨u, ru, .inr ⟨kin, ?_⟩⟩
      obtain ⟨c, hc, hc'⟩ := clos_has I S mem
      refine ⟨c, hc, ?_⟩
      rcases lk with ⟨z, _⟩ | ⟨_, c2, z2, q⟩
      · exfalso
        have z' : X.env.scope.names.lookup y = some .local := z
        rcases S.free _ mem rfl with r | r <;> (rw [z'] at r; cases r)
      · rw [hc'] at z2
        cases z2
        obtain ⟨o, q1, q2⟩ := q
        exact ⟨o, up _ _ q1, q2⟩
  · obtain ⟨v, o, q1, q2⟩ := I.cell y c (cl e)
    exact ⟨v, o, up _ _ q1, q2⟩
  · have := I.len
    simp [this, S.len]
theorem comp_leave {fp : List Addr} {σ' : St} {pins' : List (Addr × Obj)} {H1 : Hp} {s1 : Shared} {h' : Heap} {C : Addr} {oD : Obj} {ys : List V} (I : Inv X pins σ H s) (hf : ∀ b ∈ fp, FpOk X pins H b)
    (hCd : C = (s.heap.push oD).objs.size) (J : Inv (compCx X x scope C { s with heap := s.heap.push oD } H (s.heap.objs.size :: fp) N') pins' σ' H1 s1) (hsb : Heap.SameBut C s1.heap h') (hD0 : H1 s.heap.objs.size = none)
    (new : ∃ its n, Vals ys its ∧ s1.heap.get? s.heap.objs.size = some { cls := .type "list", data := .seq its.toArray n }) (hz : ys.length ≤ sizeLine) :
    Inv X pins σ (upd H1 s.heap.objs.size (.lst ys)) { s1 with heap := h' } := by
  have hC : C = s.heap.objs.size + 1 := by rw [hCd]; exact Heap.size_push ..
  have nD : ∀ b o, s.heap.get? b = some o → b ≠ s.heap.objs.size := fun b o e => Nat.ne_of_lt (Heap.lt_size e)
  have nC : ∀ b o, s.heap.get? b = some o → b ≠ C := fun b o e => by rw [hC]; exact Nat.ne_of_lt (Nat.lt_succ_of_lt (Heap.lt_size e))
  have up : ∀ b o, s.heap.get? b = some o → (s.heap.push oD).get? b = some o := fun b o e => Heap.get?_push_of_some _ e
  have nx : ∀ b, b ∉ fp → b ≠ s.heap.objs.size → b ∉ s.heap.objs.size :: fp := fun b h1 h2 z => (List.mem_cons.mp z).elim h2 h1
  have hDC : s.heap.objs.size ≠ C := by rw [hC]; exact Nat.ne_of_lt (Nat.lt_succ_self _)
  have tr : ∀ b u, H1 b = some u → b ≠ s.heap.objs.size := fun b u e z => by rw [z, hD0] at e; cases e
  have trC : ∀ b u, H1 b = some u → b ≠ C := fun b u e z => by
    have := J.free
    rw [z] at e
    have q : H1 C = none := J.free
    rw [q] at e; cases e
  obtain ⟨its, n, rv, eD⟩ := new
  have B : Un (frs X.stack) (s.heap.objs.size :: fp) H H1 (s.heap.push oD) s1.heap := J.base
  refine I.call' (s' := { s1 with heap := h' }) (ch := fp) J.os ⟨fun b o e q h1 h2 => ?_, fun b o e q h1 h2 => ?_, fun b o e q h2 => ?_, fun b o e h2 => ?_, fun b xs e => ?_, fun b o u e => ?_, fun b ps e => ?_⟩ (fun b u e => ?_) J.bare fun b hb => ?_
  · exact (hsb.2 b (nC b o e)).trans (B.keep b o (up b o e) q h1 (nx b h2 (nD b o e)))
  · obtain ⟨sl, z⟩ := B.slot b o (up b o e) q h1 (nx b h2 (nD b o e))
    exact ⟨sl, (hsb.2 b (nC b o e)).trans z⟩
  · rw [upd_ne (nD b o e)]
    exact B.free b o (up b o e) q (nx b h2 (nD b o e))
  · obtain ⟨o', z⟩ := B.there b o (up b o e) (nx b h2 (nD b o e))
    exact ⟨o', (hsb.2 b (nC b o e)).trans z⟩
  · have z := B.tups b xs e
    rw [upd_ne (tr b _ z)]; exact z
  · have z := B.frzs b o u e
    rw [upd_ne (tr b _ z)]; exact z
  · obtain ⟨more, z⟩ := B.tbls b ps e
    exact ⟨more, by rw [upd_ne (tr b _ z)]; exact z⟩
  · by_cases hb : b = s.heap.objs.size
    · subst hb
      rw [upd_same] at e
      cases e
      exact ⟨hz, its, n, rv, (hsb.2 _ hDC).trans eD⟩
    · rw [upd_ne hb] at e
      refine (J.hok b u e).stay (fun c v hc q => (hsb.2 c ?_).trans q) (fun c q => by rw [upd_ne (tr c _ q)]; exact q) fun c xs q => by rw [upd_ne (tr c _ q)]; exact q
      rcases hc with z | z
      · rw [z]; exact trC b u e
      · exact trC c _ z
  · obtain ⟨_, f1, _, f3, f4, f5⟩ := hf b hb
    exact ⟨f3, f1, f4, f5⟩
end
noncomputable def PTs (X : Cx) (ifs : List Expr) (t : TT) : Prop :=
  ∀ (pins : List (Addr × Obj)) (s : Shared) (σ : St) (H : Hp) (Q : Bool → Hp → Prop) (E : Value → Shared → Prop), Inv X pins σ H s → t σ H Q →
    wpAny (model X.prog X.w) X.A (forIn ifs true fun c r => if r = true then do
      let ok ← isTrue c X.env (eval c X.env)
      pure (ForInStep.yield ok) else pure (ForInStep.yield r)) (TP X pins σ Q) E s
theorem pts_nil {X : Cx} : PTs X [] (fun _ H Q => Q true H) := fun _ _ _ H _ _ I h => wpAny_tests_nil ⟨H, I, h⟩
noncomputable def cLoop (σ : St) (J : It) (tt : TT) (te : TE) (W : Nat → Nat → List V → Hp → Prop) (D : List V → Hp → Prop) : Prop := ∀ i m ys H, W i m ys H →
  (J.stop i H ∧ ys.length ≤ sizeLine ∧ D ys H) ∨ (J.go i H ∧ ys.length < sizeLine ∧ ∃ N : List V → Hp → Prop, (∀ ys' H', N ys' H' → ∃ m', m' < m ∧ W (i + 1) m' ys' H') ∧ ∀ v H', J.yld i H v H' → tt (some v :: σ) H' fun b H2 =>
    if b = true then te (some v :: σ) H2 fun y H3 => N (ys ++ [y]) H3 else N ys H2)
section
variable {X : Cx} {pins : List (Addr × Obj)} {σ : St} {H : Hp} {s : Shared} {x : Str} {scope : Scope} {N' : List Str}
theorem comp_loop {fp : List Addr} {it C : Addr} {tn : Nat → Heap → Prop} {J : It} {oD : Obj} {elt iter : Expr} {ifs : List Expr} {px pos : Pos} {te : TE} {tt : TT} {W : Nat → Nat → List V → Hp → Prop} {Dn : List V → Hp → Prop}
    {R : Result → Shared → Prop} {σ' : St} {s4 : Shared} {m0 : Nat} (hcalm : X.calm = true) (S : CS X.env.scope X.N x scope N') (hf : ∀ b ∈ fp, FpOk X pins H b) (ho : ∀ b ∈ fp, ∃ o, s.heap.get? b = some o) (hCd : C = (s.heap.push oD).objs.size)
    (T : Turn X.prog X.w X.K (.Name x px) J fp it tn) (I4 : Inv (compCx X x scope C { s with heap := s.heap.push oD } H (s.heap.objs.size :: fp) N') [] (none :: σ) H s4) (st4 : tn 0 s4.heap) (hD4 : s4.heap.get? s.heap.objs.size = some { cls := .type "list", data := .seq #[] 0 })
    (hDn : H s.heap.objs.size = none) (hte : PE (compCx X x scope C { s with heap := s.heap.push oD } H (s.heap.objs.size :: fp) N') elt te) (htt : PTs (compCx X x scope C { s with heap := s.heap.push oD } H (s.heap.objs.size :: fp) N') ifs tt)
    (w0 : W 0 m0 [] H) (turn : cLoop σ J tt te W Dn)
    (hR : ∀ s1 H1 σ1 ys its n, Inv (compCx X x scope C { s with heap := s.heap.push oD } H (s.heap.objs.size :: fp) N') [] σ1 H1 s1 → H1 s.heap.objs.size = none → Vals ys its → s1.heap.get? s.heap.objs.size = some { cls := .type "list", data := .seq its.toArray n } → ys.length ≤ sizeLine → Dn ys H1 → R (.ok .next) s1) :
    codeAny (model X.prog X.w) X.A (.compLoop (.ListComp elt [⟨.Name x px, iter, ifs, 0⟩] scope pos) 0 (.ref it) (.ref s.heap.objs.size) (compEnvC scope (closOf X.env scope.names []) C X.env)) R s4 := by
  have hC : C = s.heap.objs.size + 1 := by rw [hCd]; exact Heap.size_push ..
  generalize hX : compCx X x scope C { s with heap := s.heap.push oD } H (s.heap.objs.size :: fp) N' = X' at *
  have xP : X'.prog = X.prog := by rw [← hX]
  have xW : X'.w = X.w := by rw [← hX]
  have xK : X'.K = X.K := by rw [← hX]
  have xA : X'.A = X.A := by rw [← hX]
  have xE : X'.env = compEnvC scope (closOf X.env scope.names []) C X.env := by rw [← hX]
  have xC : X'.calm = true := by rw [← hX]; exact hcalm
  have xex : X'.ex = s.heap.objs.size :: fp := by rw [← hX]
  have xpn : X'.pn = [] := by rw [← hX]
  have xxe : X'.xe = fun _ _ => False := by rw [← hX]
  have xN : X'.N = x :: N' := by rw [← hX]
  have xL : X'.env.locals = C := by rw [xE]; rfl
  have xloc : X'.env.scope.names.lookup x = some .local := by rw [xE]; exact lookup_relabel_local S.hx
  have lt : ∀ b ∈ fp, b < s.heap.objs.size := fun b hb => let ⟨_, e⟩ := ho b hb; Heap.lt_size e
  have fpk : ∀ {pl : List (Addr × Obj)} {H' : Hp}, (∀ p ∈ pl, p.1 = s.heap.objs.size) → (∀ b ∈ fp, H' b = none) → ∀ b ∈ fp, FpOk X' pl H' b := fun {pl H'} hp hn b hb => by
    have okk := I4.ok
    have hm : b ∈ X'.ex := by rw [xex]; exact List.mem_cons_of_mem _ hb
    refine ⟨hn b hb, (okk.exf b hm).1, okk.exfs b hm, .inl hm, (okk.exf b hm).2, fun p hpl z => ?_⟩
    rw [xpn] at hpl
    have q1 := hp p (by simpa using hpl)
    have q2 := lt b hb
    rw [← z, q1] at q2
    exact Nat.lt_irrefl _ q2
  have dok : ∀ {pl : List (Addr × Obj)} {H' : Hp}, (∀ p ∈ pl, p.1 ∈ fp) → H' s.heap.objs.size = none → FpOk X' pl H' s.heap.objs.size := fun {pl H'} hp hn => by
    have okk := I4.ok
    have hm : s.heap.objs.size ∈ X'.ex := by rw [xex]; exact List.mem_cons_self
    refine ⟨hn, (okk.exf _ hm).1, okk.exfs _ hm, .inl hm, (okk.exf _ hm).2, fun p hpl z => ?_⟩
    rw [xpn] at hpl
    have q2 := lt p.1 (hp p (by simpa using hpl))
    rw [z] at q2
    exact Nat.lt_irrefl _ q2
  refine codeAny_compLoop_tests (I := fun m s' => ∃ i σx H' ys its n, Inv X' [] (σx :: σ) H' s' ∧ tn i s'.heap ∧ (∀ b ∈ fp, H' b = none) ∧ H' s.heap.objs.size = none ∧ Vals ys its ∧ s'.heap.get? s.heap.objs.size = some { cls := .type "list", data := .seq its.toArray n } ∧ W i m ys H') ?_ m0
    ⟨0, none, H, [], [], 0, I4, st4, fun b hb => (hf b hb).1, hDn, .nil, hD4, w0⟩
  rintro m s5 ⟨i, σx, H5, ys, its, n, I5, st5, fr5, d5, rv, e5, w5⟩
  have I5d : Inv X' ([] ++ pinsAt [s.heap.objs.size] s5.heap) (σx :: σ) H5 s5 := I5.pinned (fun b hb => by
      have e : b = s.heap.objs.size := by simpa using hb
      rw [e]; exact dok (fun p hp => absurd hp (by simp)) d5) fun b hb => by
      have e : b = s.heap.objs.size := by simpa using hb
      rw [e]; exact ⟨_, e5, fun v z => by cases z⟩
  have pD : ([] ++ pinsAt [s.heap.objs.size] s5.heap : List (Addr × Obj)) = [(s.heap.objs.size, { cls := .type "list", data := .seq its.toArray n })] := by
    simp [pinsAt, e5]
  rw [pD] at I5d
  have p1 : ∀ p ∈ [(s.heap.objs.size, ({ cls := .type "list", data := .seq its.toArray n } : Obj))], p.1 = s.heap.objs.size := fun p hp => by
    have e : p = (s.heap.objs.size, { cls := .type "list", data := .seq its.toArray n }) := by simpa using hp
    rw [e]
  have hsz : its.length = ys.length := rv.length.symm
  rcases turn i m ys H5 w5 with ⟨stop, hz, dn⟩ | ⟨go, hz, N, hN, step⟩
  · have q := T.done X' xP xW xK xC i _ s5 (σx :: σ) H5 (notedBy (model X.prog X.w) X.A (compEnvC scope (closOf X.env scope.names []) C X.env) fun e s' => R (.error e) s') I5d (fpk p1 fr5) st5 stop
    rw [xA] at q
    refine wpAny_mono q (fun r s6 z => ?_) fun _ _ z => z
    obtain ⟨rfl, I6⟩ := z
    refine hR s6 H5 (σx :: σ) ys its n ?_ d5 rv (I6.pin _ (List.mem_append_right _ (List.mem_singleton.mpr rfl))).1 hz dn
    exact I6.pins_of fun p hp => absurd hp (by simp)
  · have q := T.item X' xP xW xK xC i _ s5 (σx :: σ) H5 (notedBy (model X.prog X.w) X.A (compEnvC scope (closOf X.env scope.names []) C X.env) fun e s' => R (.error e) s') I5d (fpk p1 fr5) st5 go
    rw [xA] at q
    refine wpAny_mono q (fun r s6 z => ?_) fun _ _ z => z
    obtain ⟨u, rfl, z⟩ := z
    dsimp only
    have z' : wpAny (model X.prog X.w) X.A (pure ()) _ _ s6 := z
    refine wpAny_bind (m := pure ()) (f := fun _ => assign (.Name x px) (compEnvC scope (closOf X.env scope.names []) C X.env) u) (wpAny_mono z' (fun _ s7 z => ?_) fun _ _ z => z)
    obtain ⟨v, H7, I7, rv7, y7, st7, fr7⟩ := z
    have I7p := I7.pinned (fpk p1 fr7) (T.obj _ _ st7)
    rw [← xE]
    have nd : X'.N.Nodup := by rw [xN]; exact S.nd
    have hi0 : X'.N[0]? = some x := by rw [xN]; rfl
    refine wpAny_assign_Name (store_ok (E := notedBy (model X.prog X.w) X.A X'.env fun e s' => R (.error e) s') (i := 0) I7p nd hi0 (.inl xloc) rv7 (fun s8 I8 => ?_) (.inr xloc))
    have I8' : Inv X' _ (some v :: σ) H7 s8 := I8
    have t8 := htt _ s8 (some v :: σ) H7 _ (notedBy (model X.prog X.w) X.A X'.env fun e s' => R (.error e) s') I8' (step v H7 y7)
    rw [xP, xW, xA] at t8
    refine wpAny_mono t8 (fun ok s9 z => ?_) fun _ _ z => z
    obtain ⟨H9, I9, q9⟩ := z
    have back : ∀ {s' : Shared} {H' : Hp} {σ2 : St}, Inv X' ([(s.heap.objs.size, ({ cls := .type "list", data := .seq its.toArray n } : Obj))] ++ pinsAt fp s7.heap) σ2 H' s' →
        tn (i + 1) s'.heap ∧ (∀ b ∈ fp, H' b = none) ∧ H' s.heap.objs.size = none ∧ s'.heap.get? s.heap.objs.size = some { cls := .type "list", data := .seq its.toArray n } ∧ Inv X' [] σ2 H' s' := fun {s' H' σ2} I' => by
      refine ⟨T.keep _ _ _ st7 fun b hb o e => (I'.pin (b, o) (List.mem_append_right _ (List.mem_append_right _ (mem_pinsAt hb e)))).1, fun b hb => ?_, ?_, ?_, I'.pins_of fun p hp => absurd hp (by simp)⟩
      · obtain ⟨o, e, _⟩ := T.obj _ _ st7 b hb
        exact (I'.pin (b, o) (List.mem_append_right _ (List.mem_append_right _ (mem_pinsAt hb e)))).2.1
      · exact (I'.pin (s.heap.objs.size, _) (List.mem_append_right _ (List.mem_append_left _ (List.mem_singleton.mpr rfl)))).2.1
      · exact (I'.pin (s.heap.objs.size, _) (List.mem_append_right _ (List.mem_append_left _ (List.mem_singleton.mpr rfl)))).1
    cases ok with
    | false =>
      simp only [Bool.false_eq_true, if_false] at q9 ⊢
      obtain ⟨m', hm, w9⟩ := hN _ _ q9
      obtain ⟨a1, a2, a3, a4, a5⟩ := back I9
      exact ⟨m', hm, i + 1, some v, H9, ys, its, n, a5, a1, a2, a3, rv, a4, w9⟩
    | true =>
      simp only [if_true] at q9 ⊢
      have t9 := hte _ s9 (some v :: σ) H9 _ I9 q9
      rw [xP, xW, xA, xxe] at t9
      refine wpAny_mono t9 (fun u2 s10 z => ?_) fun _ _ z => z.elim
      obtain ⟨y, H10, I10, r10, q10⟩ := z
      obtain ⟨m', hm, w10⟩ := hN _ _ q10
      obtain ⟨a1, a2, a3, a4, a5⟩ := back I10
      refine wpAny_list_append_plain ⟨n, a4⟩ (fun h' pl sb => ?_) (by rw [List.size_toArray]; omega)
      obtain ⟨n', e'⟩ := pl
      have D0 := dok (pl := []) (fun p hp => absurd hp (by simp)) a3
      refine ⟨m', hm, i + 1, some v, H10, ys ++ [y], its ++ [u2], n', a5.turned (t' := s10.toks) (fun b o hb e => (sb.2 b hb).trans e) D0.1 D0.2.1 D0.2.2.2.1 D0.2.2.2.2.1 D0.2.2.2.2.2, ?_, a2, a3, rv.append (.cons r10 .nil), by simpa using e', w10⟩
      exact T.keep _ _ _ a1 fun b hb o e => (sb.2 b (Nat.ne_of_lt (lt b hb))).trans e
end
end L2
namespace L2
open PySem PySem.Spec PyProof.Rows
section
variable {X : Cx} {x : Str} {scope : Scope} {N' : List Str} {elt iter : Expr} {ifs : List Expr} {px pos : Pos} {wi : TI} {te : TE} {tt : TT}
noncomputable def tComp (wi : TI) (tt : TT) (te : TE) : TE := fun σ H Q => wi σ H fun J H1 => ∃ W : Nat → Nat → List V → Hp → Prop, (∃ m, W 0 m [] H1) ∧ cLoop σ J tt te W fun ys H => ∀ p, H p = none → Q (.ref p) (upd H p (.lst ys))
theorem pe_comp (hc : X.calm = true) (S : CS X.env.scope X.N x scope N') (hi : PI X (.Name x px) iter wi) (he : ∀ C s0 H0 ex, PE (compCx X x scope C s0 H0 ex N') elt te)
    (ht : ∀ C s0 H0 ex, PTs (compCx X x scope C s0 H0 ex N') ifs tt) (hs : ∀ v, foldedSetIterable iter X.env v = pure v := by intro _; rfl) : PE X (.ListComp elt [⟨.Name x px, iter, ifs, 0⟩] scope pos) (tComp wi tt te) := by
  intro pins s σ H Q I h
  rw [eval_ListComp]
  refine wpAny_comprehension_free (use := none) rfl hs (closure_eq (free_has I S)) S.kind S.names (thn (hi pins s σ H _ I h) fun v s1 h1 => thn h1 fun itv s2 h2 => ?_)
  obtain ⟨it, fp, tn, J, H2, rfl, I2, T, st2, f2, W, ⟨m0, w0⟩, turn⟩ := h2
  have ho : ∀ b ∈ fp, ∃ o, s2.heap.get? b = some o := fun b hb => let ⟨o, e, _⟩ := T.obj _ _ st2 b hb; ⟨o, e⟩
  refine wpAny_newObj_type (wpAny_newFunctionEnv S.nocell (by intro y hy; simp at hy) (fun h' hns hsb => ?_) S.kind)
  have I4 := comp_enter (x := x) (scope := scope) (tk := s2.toks + ([] : List (Str × Value)).length) I2 S f2 ho hns hsb
  have up3 : ∀ b o, (s2.heap.push { cls := .type "list", dict := none, data := .seq ([] : List Value).toArray }).get? b = some o → h'.get? b = some o := fun b o e =>
    (hsb.2 b (Nat.ne_of_lt (Heap.lt_size e))).trans (Heap.get?_push_of_some _ e)
  have st4 : tn 0 h' := T.keep _ _ _ st2 fun b _ o e => up3 b o (Heap.get?_push_of_some _ e)
  have loop := comp_loop (elt := elt) (iter := iter) (ifs := ifs) (pos := pos) (R := compPost (model X.prog X.w) X.A X.xe none (EP X pins σ Q) (.ref s2.heap.objs.size) (s2.heap.push { cls := .type "list", dict := none, data := .seq ([] : List Value).toArray }).objs.size) (σ' := σ)
    hc S f2 ho rfl T I4 st4 (up3 _ _ (Heap.get?_push_size _ rfl)) (I2.hok.fresh (Nat.le_refl _)) (he _ _ _ _) (ht _ _ _ _) w0 turn fun s5 H5 σ5 ys its n J5 d5 rv e5 hz dn => by
      obtain ⟨m, hn, _⟩ := J5.loc
      exact ⟨m, hn, fun h'' sb => ⟨.ref s2.heap.objs.size, _, comp_leave I2 f2 rfl J5 sb d5 ⟨its, n, rv, e5⟩ hz, rfl, dn _ d5⟩⟩
  exact codeAny_compStart_list loop (T.self X.A 0 _ _ _ st4 loop)
noncomputable def sComp (i : Nat) (wi : TI) (tt : TT) (te : TE) : TS := fun D σ H => wi σ H fun J H1 => ∃ W : Nat → Nat → List V → Hp → Prop, (∃ m, W 0 m [] H1) ∧ cLoop σ J tt te W fun ys H => ∀ p, H p = none → D.nx (σ.set i (some (.ref p))) (upd H p (.lst ys))
theorem ps_setC {i : Nat} {y : Str} {py spos : Pos} (hc : X.calm = true) (S : CS X.env.scope X.N x scope N') (hN : X.N.Nodup) (hi' : X.N[i]? = some y) (hy : Loc X.env.scope y) (hf' : X.fn y = true ∨ X.env.scope.names.lookup y = some .local)
    (hi : PI X (.Name x px) iter wi) (he : ∀ C s0 H0 ex, PE (compCx X x scope C s0 H0 ex N') elt te)
    (ht : ∀ C s0 H0 ex, PTs (compCx X x scope C s0 H0 ex N') ifs tt) (hsw : swapsWith (.ListComp elt [⟨.Name x px, iter, ifs, 0⟩] scope pos) (some (.Name y py)) spos.line X.env = pure true) (hs : ∀ v, foldedSetIterable iter X.env v = pure v := by intro _; rfl) :
    PS X (.Assign [.Name y py] (.ListComp elt [⟨.Name x px, iter, ifs, 0⟩] scope pos) spos) (sComp i wi tt te) := by
  intro pins s σ H D I h
  rw [exec_Assign_Name_used _ _ _ _ hsw]
  refine wpAny_bind (wpAny_standAt (wpAny_bind ?_))
  show wpAny _ _ (do let _ ← comprehension (.ListComp elt [⟨.Name x px, iter, ifs, 0⟩] scope pos) scope X.env _ (newList []) false (eval iter X.env) (some (assign (.Name y py) X.env))) _ _ s
  refine wpAny_bind (wpAny_mono (wpAny_comprehension_free (use := some (assign (.Name y py) X.env)) (Q := fun _ s' => SP X pins D .next s') rfl hs (closure_eq (free_has I S)) S.kind S.names (thn (hi pins s σ H _ I h) fun v s1 h1 => thn h1 fun itv s2 h2 => ?_)) (fun _ _ q => wpAny_pure (wpAny_pure q)) fun _ _ q => q)
  obtain ⟨it, fp, tn, J, H2, rfl, I2, T, st2, f2, W, ⟨m0, w0⟩, turn⟩ := h2
  have ho : ∀ b ∈ fp, ∃ o, s2.heap.get? b = some o := fun b hb => let ⟨o, e, _⟩ := T.obj _ _ st2 b hb; ⟨o, e⟩
  refine wpAny_newObj_type (wpAny_newFunctionEnv S.nocell (by intro y hy; simp at hy) (fun h' hns hsb => ?_) S.kind)
  have I4 := comp_enter (x := x) (scope := scope) (tk := s2.toks + ([] : List (Str × Value)).length) I2 S f2 ho hns hsb
  have up3 : ∀ b o, (s2.heap.push { cls := .type "list", dict := none, data := .seq ([] : List Value).toArray }).get? b = some o → h'.get? b = some o := fun b o e =>
    (hsb.2 b (Nat.ne_of_lt (Heap.lt_size e))).trans (Heap.get?_push_of_some _ e)
  have st4 : tn 0 h' := T.keep _ _ _ st2 fun b _ o e => up3 b o (Heap.get?_push_of_some _ e)
  have hCs : s2.heap.objs.size ≤ (s2.heap.push { cls := .type "list", dict := none, data := .seq ([] : List Value).toArray }).objs.size := by rw [Heap.size_push]; omega
  have hDC : (s2.heap.push { cls := .type "list", dict := none, data := .seq ([] : List Value).toArray }).objs.size ≠ s2.heap.objs.size := by rw [Heap.size_push]; omega
  have loop := comp_loop (elt := elt) (iter := iter) (ifs := ifs) (pos := pos) (R := compPost (model X.prog X.w) X.A X.xe (some (assign (.Name y py) X.env)) (fun _ s' => SP X pins D .next s') (.ref s2.heap.objs.size) (s2.heap.push { cls := .type "list", dict := none, data := .seq ([] : List Value).toArray }).objs.size) (σ' := σ)
    hc S f2 ho rfl T I4 st4 (up3 _ _ (Heap.get?_push_size _ rfl)) (I2.hok.fresh (Nat.le_refl _)) (he _ _ _ _) (ht _ _ _ _) w0 turn fun s5 H5 σ5 ys its n J5 d5 rv e5 hz dn => by
      have J6 := comp_leave I2 f2 rfl J5 (Heap.SameBut.refl _ _) d5 ⟨its, n, rv, e5⟩ hz
      obtain ⟨m, hn, _⟩ := J5.loc
      refine wpAny_assign_Name (store_ok2 (u := .ref s2.heap.objs.size) J6 hN hi' hy (show RelV (.ref s2.heap.objs.size) _ from rfl) (fun s7 I7 ⟨a, sb, ha⟩ => ?_) hf')
      have hCa : (s2.heap.push { cls := .type "list", dict := none, data := .seq ([] : List Value).toArray }).objs.size ≠ a := by
        rcases ha with z | z
        · rw [z]
          exact Nat.ne_of_gt (Nat.lt_of_lt_of_le I2.lt hCs)
        · obtain ⟨v, q⟩ := I2.cell _ _ z
          exact Nat.ne_of_gt (Nat.lt_of_lt_of_le q.lt hCs)
      have hn5 : H5 (s2.heap.push { cls := .type "list", dict := none, data := .seq ([] : List Value).toArray }).objs.size = none := J5.free
      have fk := I2.fpOk (b := (s2.heap.push { cls := .type "list", dict := none, data := .seq ([] : List Value).toArray }).objs.size) (H' := upd H5 s2.heap.objs.size (.lst ys)) hCs (by rw [upd_ne hDC]; exact hn5)
      refine ⟨m, hn.sameBut sb hCa, fun h'' sb2 => ⟨_, _, I7.turned (t' := s7.toks) (fun b o hb e => (sb2.2 b hb).trans e) fk.1 fk.2.1 fk.2.2.2.1 fk.2.2.2.2.1 fk.2.2.2.2.2, dn _ d5⟩⟩
  exact codeAny_compStart_list loop (T.self X.A 0 _ _ _ st4 loop)
end
section
variable {σ : St} {tt : TT} {te : TE}
end
noncomputable def Its (z : Str) : It := ⟨fun i _ => i < z.cps.size, fun i H v H' => H' = H ∧ ∃ c, z.cps[i]? = some c ∧ v = .str ⟨#[c]⟩, fun i _ => z.cps.size ≤ i⟩
end L2
namespace L2
open PySem PySem.Spec PyProof.Rows
theorem turn_str {P : Program} {w : World} {K : PySem.W.Frag} {tg : Expr} (z : Str) (t : Tok) (ty : String) (it : Addr) (hty : ty = "str_ascii_iterator" ∨ ty = "str_iterator") :
    Turn P w K tg (Its z) [it] it (fun i h => h.IsStrIter it ty z t i) where
  mem := by simp
  obj := fun i h st b hb => by
    have e : b = it := by simpa using hb
    subst e
    obtain ⟨o, e, c, d⟩ := st
    exact ⟨o, e, fun v q => by rw [d] at q; cases q⟩
  keep := fun i h h' st k => let ⟨o, e, r⟩ := st; ⟨o, k it (by simp) o e, r⟩
  item := by
    intro X hP hw hK hc i pins s σ H E I hf st hg
    subst hP hw hK
    have hi : i < z.cps.size := hg
    obtain ⟨f0, f1, f2, f3, f4, f5⟩ := hf it (by simp)
    have fin : ∀ h', h'.IsStrIter it ty z t (i + 1) → Heap.SameBut it s.heap h' → ∃ u, (some (Value.str ⟨#[z.cps[i]]⟩ s.toks) : Option Value) = some u ∧
        wpAny (model X.prog X.w) X.A (letOwnedTupleGo tg (.ref it) u) (fun _ s2 => ∃ x H', Inv X pins σ H' s2 ∧ RelV x u ∧ (Its z).yld i H x H' ∧ s2.heap.IsStrIter it ty z t (i + 1) ∧ ∀ b ∈ [it], H' b = none) E { s with heap := h', toks := s.toks + 1 } := fun h' st' sb => by
      have I1 : Inv X pins σ H { s with heap := h', toks := s.toks + 1 } := I.turned (fun b o hb e => (sb.2 b hb).trans e) f0 f1 f3 f4 f5
      obtain ⟨o, e, c, d⟩ := id st'
      refine ⟨_, rfl, go_of (s := { s with heap := h', toks := s.toks + 1 }) (n := ty) e c d ?_ ⟨.str ⟨#[z.cps[i]]⟩, H, I1, ⟨_, rfl⟩, ⟨rfl, z.cps[i], by simp [hi], rfl⟩, st', fun b hb => (hf b hb).1⟩⟩
      rcases hty with e | e <;> (rw [e]; decide)
    rcases hty with e | e
    · subst e
      exact wpAny_pyNext_ascii_item st (c := z.cps[i]) (by simp [hi]) fin
    · subst e
      exact wpAny_pyNext_wide_item st (c := z.cps[i]) (by simp [hi]) fin
  done := by
    intro X hP hw hK hc i pins s σ H E I hf st hg
    subst hP hw hK
    have hi : z.cps.size ≤ i := hg
    obtain ⟨f0, f1, f2, f3, f4, f5⟩ := hf it (by simp)
    have fin : ∀ h', Heap.ExtBut it s.heap h' → (none : Option Value) = none ∧ Inv X pins σ H { s with heap := h' } := fun h' eb => ⟨rfl, I.turned (t' := s.toks) (fun b o hb e => eb b o hb e) f0 f1 f3 f4 f5⟩
    rcases hty with e | e
    · subst e
      exact wpAny_pyNext_ascii_end (I.ok.hd hc) st (by simp; omega) fin
    · subst e
      exact wpAny_pyNext_wide_end (I.ok.hd hc) st (by simp; omega) fin
  self := fun _ _ _ _ _ st h => by
    rcases hty with e | e
    · subst e
      exact wpAny_pyIter_striter_ascii st h
    · subst e
      exact wpAny_pyIter_striter_wide st h
section
variable {X : Cx} {tg : Expr}
end
theorem all_range (bs : List Bool) (n : Nat) (hn : n = bs.length) : (List.range n).all (fun i => bs.getD i false) = bs.all id := by
  subst hn
  rw [Bool.eq_iff_iff, List.all_eq_true, List.all_eq_true]
  constructor
  · intro h b hb
    obtain ⟨i, hi, rfl⟩ := List.getElem_of_mem hb
    have := h i (List.mem_range.mpr hi)
    simpa [List.getD, hi] using this
  · intro h i hi
    have hi' := List.mem_range.mp hi
    have := h bs[i] (List.getElem_mem hi')
    simpa [List.getD, hi'] using this
theorem preSum_sum : ∀ (ns : List Int) (k : Nat), k ≤ ns.length → preSum (fun i => ns.getD i 0) k = (ns.take k).sum
  | ns, 0, _ => by simp [preSum]
  | ns, k + 1, h => by
    have hk : k < ns.length := h
    have ih := preSum_sum ns k (Nat.le_of_lt hk)
    have e : (ns.take (k + 1)).sum = (ns.take k).sum + ns.getD k 0 := by
      rw [List.take_add_one, List.sum_append]
      simp [List.getD, hk]
    rw [e, ← ih]
    rfl
section
variable {X : Cx}
theorem call_all (hc : X.calm = true) : CallR X (.builtin "all") (fun xs H Q => ∃ (p : Addr) (bs : List Bool), xs = [.ref p] ∧ SqL X.K H p (bs.map V.bl) ∧ Q (.bl (bs.all id)) H) := by
  intro pins s σ H xs us Q I r h
  obtain ⟨p, bs, rfl, hq, q⟩ := h
  obtain ⟨u, rfl, ru⟩ := vals1 r
  cases ru
  obtain ⟨its, rv, pl, hz⟩ := I.list hq
  have hlen : its.length = bs.length := by have := rv.length; simpa using this.symm
  have hlt : p < s.heap.objs.size := by
    obtain ⟨o, n, e, _⟩ := pl
    exact Heap.lt_size e
  refine call_all_walk (wpAny_pyIter_list pl.isList ?_)
  refine ⟨s.heap.objs.size, _, _, _, _, _, fun i => bs.getD i false, rfl, Walks.list (A := X.A.in1) (I.ok.hd hc) _ p (Nat.ne_of_lt hlt) its.toArray, ⟨⟨_, Heap.get?_push_size _ rfl, rfl, rfl⟩, ?_⟩, fun i v s' Q' E' hv hQ' => ?_, fun h' tk hk => ?_⟩
  · obtain ⟨o, n, e, r⟩ := pl.isList
    exact ⟨o, Heap.get?_push_of_some _ n, e, r⟩
  · have hi : i < its.length := by
      have := (Array.getElem?_eq_some_iff.mp hv).1
      simpa using this
    have hi2 : i < bs.length := by omega
    obtain ⟨u, hu, ru⟩ := rv.get (i := i) (x := .bl bs[i]) (by simp [hi2])
    have e : v = u := by
      have hv' : its[i]? = some v := by simpa using hv
      rw [hu] at hv'
      exact (Option.some.inj hv').symm
    subst e
    cases (show v = Value.bool bs[i] from ru)
    refine wpAny_truthy_bool ?_
    have e : bs[i] = bs.getD i false := by simp [List.getD, hi2]
    rw [e]
    exact hQ'
  · have e : (List.range its.toArray.size).all (fun i => bs.getD i false) = bs.all id := all_range bs _ (by simpa using hlen)
    rw [e]
    exact ⟨.bl _, H, I.kept (t' := tk) fun b o q => hk b o (by simp; exact Nat.ne_of_lt (Heap.lt_size q)) (Heap.get?_push_of_some _ q), rfl, q⟩
theorem ints_at {ns : List Int} {its : List Value} (rv : Vals (ns.map V.int) its) {i : Nat} {v : Value} (hv : its.toArray[i]? = some v) : ∃ t, v = .int (ns.getD i 0) t := by
  have hlen : its.length = ns.length := by have := rv.length; simpa using this.symm
  have hi : i < its.length := by
    have := (Array.getElem?_eq_some_iff.mp hv).1
    simpa using this
  have hi2 : i < ns.length := by omega
  obtain ⟨u, hu, ru⟩ := rv.get (i := i) (x := .int ns[i]) (by simp [hi2])
  have e : v = u := by
    have hv' : its[i]? = some v := by simpa using hv
    rw [hu] at hv'
    exact (Option.some.inj hv').symm
  subst e
  obtain ⟨t, e⟩ := (show ∃ t, v = Value.int ns[i] t from ru)
  refine ⟨t, ?_⟩
  rw [e]
  simp [List.getD, hi2]
theorem call_sum (hc : X.calm = true) : CallR X (.builtin "sum") (fun xs H Q => ∃ (p : Addr) (ns : List Int), xs = [.ref p] ∧ SqL X.K H p (ns.map V.int) ∧ Q (.int ns.sum) H) := by
  intro pins s σ H xs us Q I r h
  obtain ⟨p, ns, rfl, hq, q⟩ := h
  obtain ⟨u, rfl, ru⟩ := vals1 r
  cases ru
  obtain ⟨its, rv, pl, hz⟩ := I.list hq
  have hlen : its.length = ns.length := by have := rv.length; simpa using this.symm
  have hlt : p < s.heap.objs.size := by
    obtain ⟨o, n, e, _⟩ := pl
    exact Heap.lt_size e
  refine call_sum_walkG (wpAny_pyIter_list pl.isList ?_)
  refine ⟨s.heap.objs.size, _, _, _, _, _, fun i => ns.getD i 0, rfl, Walks.list (A := X.A.in1) (I.ok.hd hc) _ p (Nat.ne_of_lt hlt) its.toArray, ⟨⟨_, Heap.get?_push_size _ rfl, rfl, rfl⟩, ?_⟩, fun b hb => ?_, fun i v hv => ints_at rv hv, fun h' tk t' hk => ?_⟩
  · obtain ⟨o, n, e, r⟩ := pl.isList
    exact ⟨o, Heap.get?_push_of_some _ n, e, r⟩
  · rw [Heap.size_push]
    rcases (by simpa using hb : b = s.heap.objs.size ∨ b = p) with e | e
    · rw [e]; exact Nat.lt_succ_self _
    · rw [e]; exact Nat.lt_succ_of_lt hlt
  · have e : preSum (fun i => ns.getD i 0) its.toArray.size = ns.sum := by
      rw [preSum_sum ns _ (by simp; omega)]
      rw [List.take_of_length_le (by simp; omega)]
    rw [e]
    exact ⟨.int _, H, I.kept (t' := tk) fun b o q => hk b o (by simp; exact Nat.ne_of_lt (Heap.lt_size q)) (Heap.get?_push_of_some _ q), ⟨t', rfl⟩, q⟩
end
end L2
namespace L2
open PySem PySem.Spec PyProof.Rows
open K1 (maxFrom maxD)
section
variable {prog : Program} {w : World} {A : Around} {R : Result → Shared → Prop} {it S : Addr} {fp wr : List Addr} {P : Nat → Value → Prop} {St : Nat → Heap → Prop} {ns : List Int} {kw : List (Str × Value)}
end
section
variable {X : Cx}
end
end L2
namespace L2
open PySem PySem.Spec PyProof.Rows
open K1 (maxFrom maxD)
section
variable {X : Cx} {e ed : Expr} {te td : TE} {p pos kpos : Pos}
end
end L2
namespace L2
open PySem PySem.Spec PyProof.Rows
section
variable {X : Cx}
theorem op_isnotB : OpR X (compareOp .IsNot) (fun x y H Q => ∃ b c, x = .bl b ∧ y = .bl c ∧ Q (.bl (b != c)) H) := by
  intro pins s σ H x y v u Q I rx ry h
  obtain ⟨b, c, rfl, rfl, q⟩ := h
  cases rx
  cases ry
  exact isnot_bool ⟨.bl (b != c), H, I, rfl, q⟩
theorem op_catG : OpR X (binaryOp .Add) (fun x y H Q => ∃ a b xs ys, x = .ref a ∧ y = .ref b ∧ SqT X.K H a xs ∧ SqT X.K H b ys ∧ xs.length + ys.length ≤ sizeLine ∧
    (xs = [] → Q (.ref b) H) ∧ (xs ≠ [] → ys = [] → Q (.ref a) H) ∧ (xs ≠ [] → ys ≠ [] → ∀ p, H p = none → Q (.ref p) (upd H p (.tup (xs ++ ys))))) := by
  intro pins s σ H x y v u Q I rx ry h
  obtain ⟨a, b, xs, ys, rfl, rfl, ha, hb, hz, q0, q1, q2⟩ := h
  by_cases hx : xs = []
  · cases rx
    cases ry
    obtain ⟨its, r1, p1, _⟩ := I.tuple ha
    obtain ⟨its2, r2, p2, _⟩ := I.tuple hb
    have hv : its = [] := r1.nil_iff.mpr hx
    obtain ⟨⟨cls, dd, data, sl⟩, ho, hc, n, hd⟩ := id p1
    obtain ⟨⟨cls2, dd2, data2, sl2⟩, ho2, hc2, n2, hd2⟩ := id p2
    simp only at hc hd hc2 hd2
    subst hc hd hc2 hd2
    exact concat_meets ⟨_, ho, rfl⟩ ⟨_, ho2, rfl⟩ noFill_tuple_add seq_tuple_add PySem.F.slot_tuple_add PySem.F.entry_tuple_add (PySem.F.args_tuple_add_2 _ _)
      (tuple_addW0 a b its.toArray its2.toArray n n2 dd dd2 sl sl2 (by simp [hv])) ⟨ho, ho2, ⟨.ref b, H, I, rfl, q0 hx⟩⟩
  · exact op_catT pins s σ H _ _ v u Q I rx ry ⟨a, b, xs, ys, rfl, rfl, ha, hb, hx, hz, q1 hx, q2 hx⟩
theorem sl_str : SlR X (fun x lo hi H Q => ∃ z : Str, x = .str z ∧ z.length ≤ sizeLine ∧ Q (.str (Txt.slice z lo hi)) H) := by
  intro pins s σ H x v vl vu lo hi sl Q I rx hs pl pu h
  obtain ⟨z, rfl, hz, q⟩ := h
  obtain ⟨t, rfl⟩ := rx
  have fin : ∀ l u : Option (Int × Tok), l.map (·.1) = lo → u.map (·.1) = hi → s.heap.IsSlice sl l u none → wpAny (model X.prog X.w) X.A (getItem (.str z t) (.ref sl)) (EP X pins σ Q) X.xe s := fun l u el eu h => by
    refine wpAny_getItem_str_slice h rfl ?_
    refine post_val_or_made (fun _ => ?_) fun t' k => ?_
    · have := sliceIndices_le (l.map (·.1)) (u.map (·.1)) z.length
      have e := List.length_filterMap_le (fun i => z.cps[i]?) (slicePicked z l u none)
      show ((slicePicked z l u none).filterMap (z.cps[·]?)).toArray.size ≤ sizeLine
      rw [List.size_toArray]
      unfold slicePicked at e ⊢
      simp only [Option.map_none, Option.getD_none] at e ⊢
      omega
    · refine ⟨.str (Txt.slice z lo hi), H, I.tok _, ⟨t', ?_⟩, q⟩
      rw [← el, ← eu]
      rfl
  refine ⟨"str", _, PySem.F.slot_str_getitem.lookup, typeIs_str s z t, ?_⟩
  cases pl with
  | none =>
    cases pu with
    | none => exact fin none none rfl rfl hs
    | int j u => exact fin none (some (j, u)) rfl rfl hs
  | int i u =>
    cases pu with
    | none => exact fin (some (i, u)) none rfl rfl hs
    | int j u' => exact fin (some (i, u)) (some (j, u')) rfl rfl hs
theorem op_mulS : OpR X (binaryOp .Mult) (fun x y H Q => ∃ z k, x = .str z ∧ y = .int k ∧ 0 ≤ k ∧ k ≤ 2000 ∧ z.length ≤ 1000 ∧ Q (.str (Txt.mul z k)) H) := by
  intro pins s σ H x y v u Q I rx ry h
  obtain ⟨z, k, rfl, rfl, h1, h2, h3, q⟩ := h
  obtain ⟨t, rfl⟩ := rx
  obtain ⟨t', rfl⟩ := ry
  have hm : z.length * k.toNat ≤ 1000 * 2000 := Nat.mul_le_mul h3 (by omega)
  refine SB.mul ⟨?_, fun g1 g2 => ?_, fun g1 g2 => ?_⟩ fun t' k' => ⟨.str _, H, I.tok _, ⟨t', rfl⟩, q⟩
  · simp; omega
  · have hk : 1 ≤ k := by simp at g1; omega
    have e1 : (1000 : Int) ≤ (2 ^ 63 - 1) / k := by
      rw [Int.le_ediv_iff_mul_le (by omega)]
      omega
    omega
  · unfold Builtin.Str.tooLong
    simp [sizeLine]
    omega
end
end L2
namespace L2
open PySem PySem.Spec PyProof.Rows
theorem strsAre_of {ys : List Str} : ∀ {us : List Value}, Vals (ys.map V.str) us → StrsAre us ys := by
  induction ys with
  | nil => intro us r; rw [List.map_nil] at r; cases r; exact .nil
  | cons y ys ih =>
    intro us r
    rw [List.map_cons] at r
    cases r with
    | cons r1 r2 =>
      obtain ⟨t, e⟩ := r1
      subst e
      exact .cons y t (ih r2)
section
variable {X : Cx}
end
end L2
namespace L2
open PySem PySem.Spec PyProof.Rows
structure Fn (P : Program) (w : World) (K : PySem.W.Frag) (mg : Str → Option Value) (base : Heap) (name : Str) (ps : List Str) (k : Nat) (sp : Sp) : Prop where
  ex : ∃ f fd, FnOk P w K mg base CX0 k f fd ps sp ∧ Binds K fd ps [] ∧ PySem.W.keepIn K (.ref f) = true ∧ mg name = some (.ref f)
section
variable {X : Cx} {name : Str} {ps : List Str} {k : Nat} {sp : Sp} {e : Expr} {es : List Expr} {t : TA} {p pos : Pos}
theorem pe_fn (F : Fn X.prog X.w X.K X.mg X.base name ps k sp) (hr : Room k X.A) (hg : Gl X name) (ha : PA X (e :: es) t) (hdb : (name == ("__debug__" : Str)) = false := by decide)
    (he : starEach (e :: es) X.env = (false, eval e X.env) :: starEach es X.env := by rfl) (hpl : (backTo pos (starEach es X.env)).any (·.1) = false := by rfl) : PE X (.Call (.Name name p) (e :: es) [] pos) (tCall sp [] E0 t) := by
  obtain ⟨f, fd, h1, h2, h3, h4⟩ := F.ex
  exact pe_call h1 hr hg h4 h3 h2 .nil pass0 ha hdb he hpl
end
theorem Fn.mono {P : Program} {w : World} {K : PySem.W.Frag} {mg : Str → Option Value} {base : Heap} {name : Str} {ps : List Str} {k k' : Nat} {sp : Sp} (F : Fn P w K mg base name ps k sp) (h : k ≤ k') : Fn P w K mg base name ps k' sp := by
  obtain ⟨f, fd, h1, h2⟩ := F.ex
  exact ⟨f, fd, h1.mono h, h2⟩
theorem pe_compD {X : Cx} {x : Str} {scope osc : Scope} {N N' : List Str} {elt iter : Expr} {ifs : List Expr} {px pos : Pos} {wi : TI} {te : TE} {tt : TT} (S : CS osc N x scope N') (hi : PI X (.Name x px) iter wi)
    (he : ∀ C s0 H0 ex, PE (compCx X x scope C s0 H0 ex N') elt te) (ht : ∀ C s0 H0 ex, PTs (compCx X x scope C s0 H0 ex N') ifs tt) (hc : X.calm = true := by rfl) (hs : X.env.scope = osc := by rfl) (hN : X.N = N := by rfl)
    (hf : ∀ v, foldedSetIterable iter X.env v = pure v := by intro _; rfl) : PE X (.ListComp elt [⟨.Name x px, iter, ifs, 0⟩] scope pos) (tComp wi tt te) := by
  subst hs hN
  exact pe_comp hc S hi he ht hf
end L2
namespace D
open PySem PySem.Spec PyProof.Rows L2
inductive Gh (P : Hp → Prop) : Hp → Prop where
  | done {H : Hp} : P H → Gh P H
  | frz {H : Hp} {a : Addr} {kvs : List (Key × V)} : H a = some (.dK kvs) → (∀ o, Gh P (upd H a (.frz o (.dK kvs)))) → Gh P H
theorem Gh.imp {P P' : Hp → Prop} {H : Hp} (g : Gh P H) (i : ∀ H, P H → P' H) : Gh P' H := by
  induction g with
  | done h => exact .done (i _ h)
  | frz e _ ih => exact .frz e ih
section
variable {X : Cx} {pins : List (Addr × Obj)} {σ : L2.St} {H : Hp} {s : Shared}
theorem inv_frz (I : Inv X pins σ H s) {a : Addr} {kvs : List (Key × V)} (e : H a = some (.dK kvs)) : ∃ o, Inv X pins σ (upd H a (.frz o (.dK kvs))) s := by
  obtain ⟨z, y, vs, kv, o, es, ep, eo, r⟩ := I.hok a _ e
  have U : ∀ {b : Addr} {u : HO}, H b = some u → (∀ ks, u ≠ .dK ks) → upd H a (.frz o (.dK kvs)) b = some u := fun {b u} q n => by
    rw [upd_ne (fun z => by subst z; rw [e] at q; cases q; exact n _ rfl)]
    exact q
  have hok : HOk X.prog X.w (upd H a (.frz o (.dK kvs))) s.heap := fun b u q => by
    by_cases hb : b = a
    · subst hb
      rw [upd_same] at q
      cases q
      exact ⟨eo, (I.hok b _ e).stay (fun _ _ _ q => q) (fun c q => U q (fun _ z => nomatch z)) fun c xs q => U q (fun _ z => nomatch z)⟩
    · rw [upd_ne hb] at q
      exact (I.hok b u q).stay (fun _ _ _ q => q) (fun c q => U q (fun _ z => nomatch z)) fun c xs q => U q (fun _ z => nomatch z)
  exact ⟨o, I.un (h' := s.heap) (t' := s.toks) ⟨fun b ob q n _ _ => q, fun b ob q n _ _ => ⟨_, q⟩, fun b ob q n _ => by rw [upd_ne (fun z => by subst z; rw [e] at n; cases n)]; exact n, fun b ob q _ => ⟨_, q⟩, fun b xs q => U q (fun _ z => nomatch z),
    fun b ob u q => U q (fun _ z => nomatch z), fun b ps q => ⟨#[], by rw [U q (fun _ z => nomatch z)]; simp⟩⟩ hok⟩
theorem Gh.ok {P : Hp → Prop} (g : Gh P H) (I : Inv X pins σ H s) : ∃ H', Inv X pins σ H' s ∧ P H' := by
  induction g with
  | done h => exact ⟨_, I, h⟩
  | frz e _ ih =>
    obtain ⟨o, I'⟩ := inv_frz I e
    exact ih o I'
end
section
variable {X : Cx}
theorem ps_gh {st : Stmt} {t : TS} (h : PS X st t) : PS X st (fun D σ H => Gh (t D σ) H) := fun pins s σ H D I q => by
  obtain ⟨H', I', q'⟩ := q.ok I
  exact h pins s σ H' D I' q'
end
end D
namespace D
open PySem PySem.Spec PyProof.Rows L2
noncomputable def epOf (o : Obj) : Nat := match o.data with
  | .dict _ ep => ep
  | _ => 0
noncomputable def Itd (a : Addr) (o : Obj) (kvs : List (Key × V)) : It :=
  ⟨fun i H => H a = some (.frz o (.dK kvs)) ∧ i < kvs.length, fun i H x H' => H' = H ∧ ∃ k v, kvs[i]? = some (k, v) ∧ x = kV k, fun i H => H a = some (.frz o (.dK kvs)) ∧ i = kvs.length⟩
theorem dictAt_of {P : Program} {w : World} {H : Hp} {h : Heap} {a : Addr} {o : Obj} {kvs : List (Key × V)} (ok : HOk P w H h) (e : H a = some (.frz o (.dK kvs))) : kvs.length ≤ sizeLine ∧ (a == sysModules) = false ∧ ∃ vs, KV kvs vs ∧ h.DictAt (mixKind P w) a vs (epOf o) := by
  obtain ⟨e1, z, y, vs, kv, o', es, ep, e2, ed, dd, r⟩ := ok a _ e
  rw [e1] at e2
  cases e2
  refine ⟨z, y, vs, kv, o, es, e1, ed, ?_, r⟩
  unfold epOf
  rw [dd]
theorem keyV {P : Program} {w : World} {k : Key} {v : Value} (e : (mixKind P w).is k v = true) : RelV (kV k) v := by
  rcases keyIs_shape (show keyIs k v = true from e) with ⟨i, t, rfl, rfl⟩ | ⟨x, t, rfl, rfl⟩
  · exact ⟨t, rfl⟩
  · exact ⟨t, rfl⟩
theorem kv_at {kvs : List (Key × V)} {vs : List (Key × Value)} (r : KV kvs vs) {i : Nat} {k : Key} {x : Value} (e : vs[i]? = some (k, x)) : ∃ v, kvs[i]? = some (k, v) := by
  have h := r.keys
  have h1 : (vs.map (·.1))[i]? = some k := by rw [List.getElem?_map, e]; rfl
  rw [← h, List.getElem?_map] at h1
  cases q : kvs[i]? with
  | none => rw [q] at h1; cases h1
  | some p =>
    rw [q] at h1
    cases h1
    exact ⟨p.2, rfl⟩
theorem turn_dict {P : Program} {w : World} {K : PySem.W.Frag} {tg : Expr} (a it : Addr) (o : Obj) (kvs : List (Key × V)) : Turn P w K tg (Itd a o kvs) [it] it (fun i h => h.IsKeyIter it a i kvs.length (epOf o)) where
  mem := by simp
  obj := fun i h st b hb => by
    have e : b = it := by simpa using hb
    subst e
    obtain ⟨o, e, c, d⟩ := st
    exact ⟨o, e, fun v z => by rw [d] at z; cases z⟩
  keep := fun i h h' st k => st.at fun o e => k it (by simp) o e
  item := by
    intro X hP hw hK hc i pins s σ H E I hf st hg
    subst hP hw hK
    obtain ⟨hg1, hg2⟩ := hg
    obtain ⟨z, y, vs, kv, dd⟩ := dictAt_of I.hok hg1
    obtain ⟨f0, f1, f2, f3, f4, f5⟩ := hf it (by simp)
    have hl := kv.length
    have ne : a ≠ it := fun q => by rw [q, f0] at hg1; cases hg1
    have W := Walks.dictKeys (prog := X.prog) (w := X.w) (knd := mixKind X.prog X.w) (I.ok.hd hc) it a ne vs (epOf o)
    refine W.item i s _ _ (by omega) ⟨by rw [← hl]; exact st, dd⟩ fun v h' tk hv st' kk => ?_
    obtain ⟨k, x, h1, h2⟩ := hv
    have I1 : Inv X pins σ H { s with heap := h', toks := tk } := I.turned (fun b o hb e => kk b o (by simpa using hb) e) f0 f1 f3 f4 f5
    have st1 : h'.IsKeyIter it a (i + 1) kvs.length (epOf o) := by rw [hl]; exact st'.1
    obtain ⟨o1, e1, c1, d1⟩ := id st1
    obtain ⟨v0, h3⟩ := kv_at kv h1
    exact ⟨v, rfl, go_of (s := { s with heap := h', toks := tk }) e1 c1 d1 (by decide) ⟨kV k, H, I1, keyV h2, ⟨rfl, k, v0, h3, rfl⟩, st1, fun b hb => (hf b hb).1⟩⟩
  done := by
    intro X hP hw hK hc i pins s σ H E I hf st hg
    subst hP hw hK
    obtain ⟨hg1, hg2⟩ := hg
    obtain ⟨z, y, vs, kv, dd⟩ := dictAt_of I.hok hg1
    obtain ⟨f0, f1, f2, f3, f4, f5⟩ := hf it (by simp)
    have hl := kv.length
    have ne : a ≠ it := fun q => by rw [q, f0] at hg1; cases hg1
    have W := Walks.dictKeys (prog := X.prog) (w := X.w) (knd := mixKind X.prog X.w) (I.ok.hd hc) it a ne vs (epOf o)
    refine W.done s _ _ ⟨by rw [← hl, ← hg2]; rw [← hg2] at st; exact st, dd⟩ fun h' tk kk => ⟨rfl, I.turned (fun b o hb e => kk b o (by simpa using hb) e) f0 f1 f3 f4 f5⟩
  self := fun _ _ _ _ _ st h => wpAny_pyIter_keyiter st h
end D
namespace D
open PySem PySem.Spec PyProof.Rows L2
inductive W where
  | d (x : PyData) | tp (i : Nat) | loc (x : PyData)
noncomputable abbrev Tp := List (List PyData)
noncomputable abbrev Rho := List (Option W)
noncomputable def bnd {α β : Type} (o : Option (α × Tp)) (k : α → Tp → Option β) : Option β := match o with
  | some (a, T) => k a T
  | none => none
theorem bnd_of {α β : Type} {o : Option (α × Tp)} {k : α → Tp → Option β} {b : β} (h : bnd o k = some b) : ∃ a T, o = some (a, T) ∧ k a T = some b := by
  cases o with
  | none => cases h
  | some p => exact ⟨p.1, p.2, rfl, h⟩
theorem bnd_mk {α β : Type} {a : α} {T : Tp} {k : α → Tp → Option β} : bnd (some (a, T)) k = k a T := rfl
noncomputable def keyD : Key → PyData
  | .inl i => .int i
  | .inr x => .str x
noncomputable def TupAt (K : PySem.W.Frag) (O : Addr → Prop) (H : Hp) (a : Addr) (vs : List V) : Prop := (¬ O a ∧ Rd H a (.tup vs)) ∨ SqT K (fun _ => none) a vs
noncomputable def LstAt (K : PySem.W.Frag) (O : Addr → Prop) (H : Hp) (a : Addr) (vs : List V) : Prop := (¬ O a ∧ Rd H a (.lst vs)) ∨ SqL K (fun _ => none) a vs
theorem sqT_of {K : PySem.W.Frag} {H : Hp} {a : Addr} {vs : List V} (h : SqT K (fun _ => none) a vs) : SqT K H a vs := by
  rcases h with (h | ⟨o, h⟩) | h
  · cases h
  · cases h
  · exact .inr h
theorem sqL_of {K : PySem.W.Frag} {H : Hp} {a : Addr} {vs : List V} (h : SqL K (fun _ => none) a vs) : SqL K H a vs := by
  rcases h with (h | ⟨o, h⟩) | h
  · cases h
  · cases h
  · exact .inr h
theorem TupAt.sq {K : PySem.W.Frag} {O : Addr → Prop} {H : Hp} {a : Addr} {vs : List V} (h : TupAt K O H a vs) : SqT K H a vs := by
  rcases h with h | h
  · exact .inl h.2
  · exact sqT_of h
theorem LstAt.sq {K : PySem.W.Frag} {O : Addr → Prop} {H : Hp} {a : Addr} {vs : List V} (h : LstAt K O H a vs) : SqL K H a vs := by
  rcases h with h | h
  · exact .inl h.2
  · exact sqL_of h
mutual
inductive Rep (K : PySem.W.Frag) (O : Addr → Prop) (H : Hp) : V → PyData → Prop where
  | non : Rep K O H .non .none
  | bl (b : Bool) : Rep K O H (.bl b) (.bool b)
  | int (i : Int) : Rep K O H (.int i) (.int i)
  | str (x : Str) : Rep K O H (.str x) (.str x)
  | tup {a : Addr} {vs : List V} {ds : List PyData} : TupAt K O H a vs → Reps K O H vs ds → Rep K O H (.ref a) (.tuple ds)
  | lst {a : Addr} {vs : List V} {ds : List PyData} : LstAt K O H a vs → Reps K O H vs ds → Rep K O H (.ref a) (.list ds)
  | dct {a : Addr} {o : Obj} {kvs : List (Key × V)} {ds : List (PyData × PyData)} : ¬ O a → H a = some (.frz o (.dK kvs)) → RepK K O H kvs ds → Rep K O H (.ref a) (.dict ds)
inductive Reps (K : PySem.W.Frag) (O : Addr → Prop) (H : Hp) : List V → List PyData → Prop where
  | nil : Reps K O H [] []
  | cons {v : V} {d : PyData} {vs : List V} {ds : List PyData} : Rep K O H v d → Reps K O H vs ds → Reps K O H (v :: vs) (d :: ds)
inductive RepK (K : PySem.W.Frag) (O : Addr → Prop) (H : Hp) : List (Key × V) → List (PyData × PyData) → Prop where
  | nil : RepK K O H [] []
  | cons {k : Key} {v : V} {d : PyData} {kvs : List (Key × V)} {ds : List (PyData × PyData)} : Rep K O H v d → RepK K O H kvs ds → RepK K O H ((k, v) :: kvs) ((keyD k, d) :: ds)
end
noncomputable def Le (O : Addr → Prop) (H : Hp) (O' : Addr → Prop) (H' : Hp) : Prop := ∀ a o, ¬ O a → H a = some o → ¬ O' a ∧ H' a = some o
theorem Le.trans {O O1 O2 : Addr → Prop} {H H1 H2 : Hp} (h : Le O H O1 H1) (g : Le O1 H1 O2 H2) : Le O H O2 H2 := fun a o n e => let ⟨n1, e1⟩ := h a o n e; g a o n1 e1
theorem TupAt.mono {K : PySem.W.Frag} {O O' : Addr → Prop} {H H' : Hp} (h : Le O H O' H') {a : Addr} {vs : List V} (t : TupAt K O H a vs) : TupAt K O' H' a vs := by
  rcases t with ⟨n, t | ⟨o, t⟩⟩ | t
  · exact .inl ⟨(h _ _ n t).1, .inl (h _ _ n t).2⟩
  · exact .inl ⟨(h _ _ n t).1, .inr ⟨o, (h _ _ n t).2⟩⟩
  · exact .inr t
theorem LstAt.mono {K : PySem.W.Frag} {O O' : Addr → Prop} {H H' : Hp} (h : Le O H O' H') {a : Addr} {vs : List V} (t : LstAt K O H a vs) : LstAt K O' H' a vs := by
  rcases t with ⟨n, t | ⟨o, t⟩⟩ | t
  · exact .inl ⟨(h _ _ n t).1, .inl (h _ _ n t).2⟩
  · exact .inl ⟨(h _ _ n t).1, .inr ⟨o, (h _ _ n t).2⟩⟩
  · exact .inr t
mutual
theorem Rep.mono {K : PySem.W.Frag} {O O' : Addr → Prop} {H H' : Hp} (e : Le O H O' H') : ∀ {v : V} {d : PyData}, Rep K O H v d → Rep K O' H' v d
  | _, _, .non => .non
  | _, _, .bl b => .bl b
  | _, _, .int i => .int i
  | _, _, .str x => .str x
  | _, _, .tup t r => .tup (t.mono e) (Reps.mono e r)
  | _, _, .lst t r => .lst (t.mono e) (Reps.mono e r)
  | _, _, .dct n h r => .dct (e _ _ n h).1 (e _ _ n h).2 (RepK.mono e r)
theorem Reps.mono {K : PySem.W.Frag} {O O' : Addr → Prop} {H H' : Hp} (e : Le O H O' H') : ∀ {vs : List V} {ds : List PyData}, Reps K O H vs ds → Reps K O' H' vs ds
  | _, _, .nil => .nil
  | _, _, .cons r t => .cons (Rep.mono e r) (Reps.mono e t)
theorem RepK.mono {K : PySem.W.Frag} {O O' : Addr → Prop} {H H' : Hp} (e : Le O H O' H') : ∀ {vs : List (Key × V)} {ds : List (PyData × PyData)}, RepK K O H vs ds → RepK K O' H' vs ds
  | _, _, .nil => .nil
  | _, _, .cons r t => .cons (Rep.mono e r) (RepK.mono e t)
end
section
variable {K : PySem.W.Frag} {O : Addr → Prop} {H : Hp}
theorem Reps.length : ∀ {vs : List V} {ds : List PyData}, Reps K O H vs ds → vs.length = ds.length
  | _, _, .nil => rfl
  | _, _, .cons _ t => congrArg (· + 1) (Reps.length t)
theorem Reps.get : ∀ {vs : List V} {ds : List PyData} {i : Nat} {v : V}, Reps K O H vs ds → vs[i]? = some v → ∃ d, ds[i]? = some d ∧ Rep K O H v d
  | _, _, _, _, .nil, e => by simp at e
  | _, _, 0, _, .cons r _, e => by simp at e; subst e; exact ⟨_, rfl, r⟩
  | _, _, i + 1, v, .cons _ t, e => by
    obtain ⟨d, h1, h2⟩ := Reps.get (i := i) (v := v) t (by simpa using e)
    exact ⟨d, by simpa using h1, h2⟩
theorem Reps.getD : ∀ {vs : List V} {ds : List PyData} {i : Nat} {d : PyData}, Reps K O H vs ds → ds[i]? = some d → ∃ v, vs[i]? = some v ∧ Rep K O H v d
  | _, _, _, _, .nil, e => by simp at e
  | _, _, 0, _, .cons r _, e => by simp at e; subst e; exact ⟨_, rfl, r⟩
  | _, _, i + 1, v, .cons _ t, e => by
    obtain ⟨d, h1, h2⟩ := Reps.getD (i := i) (d := v) t (by simpa using e)
    exact ⟨d, by simpa using h1, h2⟩
theorem Reps.set {v : V} {d : PyData} (r : Rep K O H v d) : ∀ {vs : List V} {ds : List PyData} (i : Nat), Reps K O H vs ds → Reps K O H (vs.set i v) (ds.set i d)
  | _, _, _, .nil => .nil
  | _, _, 0, .cons _ t => .cons r t
  | _, _, i + 1, .cons q t => .cons q (Reps.set r i t)
theorem Reps.append {ws : List V} {es : List PyData} : ∀ {vs : List V} {ds : List PyData}, Reps K O H vs ds → Reps K O H ws es → Reps K O H (vs ++ ws) (ds ++ es)
  | _, _, .nil, r => r
  | _, _, .cons q t, r => .cons q (Reps.append t r)
theorem Reps.take : ∀ {vs : List V} {ds : List PyData} (n : Nat), Reps K O H vs ds → Reps K O H (vs.take n) (ds.take n)
  | _, _, 0, _ => .nil
  | _, _, _ + 1, .nil => .nil
  | _, _, n + 1, .cons r t => .cons r (Reps.take n t)
theorem Reps.drop : ∀ {vs : List V} {ds : List PyData} (n : Nat), Reps K O H vs ds → Reps K O H (vs.drop n) (ds.drop n)
  | _, _, 0, r => r
  | _, _, _ + 1, .nil => .nil
  | _, _, n + 1, .cons _ t => Reps.drop n t
theorem Reps.rep {vs : List V} {ds : List PyData} (r : Reps K O H vs ds) : ∀ n : Nat, Reps K O H (List.replicate n vs).flatten (List.replicate n ds).flatten
  | 0 => .nil
  | n + 1 => by
    rw [List.replicate_succ, List.replicate_succ, List.flatten_cons, List.flatten_cons]
    exact r.append (r.rep n)
end
noncomputable def SameX (ts : List Addr) (H H' : Hp) : Prop := ∀ b o, b ∉ ts → H b = some o → H' b = some o
theorem SameX.refl (ts : List Addr) (H : Hp) : SameX ts H H := fun _ _ _ h => h
theorem SameX.trans {ts : List Addr} {H H1 H2 : Hp} (a : SameX ts H H1) (b : SameX ts H1 H2) : SameX ts H H2 := fun c o n h => b c o n (a c o n h)
theorem SameX.new {ts : List Addr} {H : Hp} {p : Addr} (h : H p = none) (o : HO) : SameX ts H (upd H p o) := fun b u _ q => by rw [upd_ne (ne_of_none q h)]; exact q
noncomputable def Mut (o : Option HO) : Prop := (∃ vs, o = some (.lst vs)) ∨ (∃ kvs, o = some (.dK kvs)) ∨ ∃ C dx fs, o = some (.ins C dx fs)
theorem Mut.ex {o : Option HO} (h : Mut o) : ∃ u, o = some u := by
  rcases h with ⟨vs, e⟩ | ⟨vs, e⟩ | ⟨C, dx, fs, e⟩ <;> exact ⟨_, e⟩
theorem Mut.to {o o' : Option HO} (h : Mut o) (k : ∀ u, o = some u → o' = some u) : Mut o' := by
  rcases h with ⟨vs, e⟩ | ⟨vs, e⟩ | ⟨C, dx, fs, e⟩
  · exact .inl ⟨vs, k _ e⟩
  · exact .inr (.inl ⟨vs, k _ e⟩)
  · exact .inr (.inr ⟨C, dx, fs, k _ e⟩)
noncomputable def tagO (C : Addr) : PyData := .dict [(.none, .int (C : Int))]
noncomputable def isO : List PyData → Bool
  | .dict [(.none, _)] :: _ => true
  | _ => false
noncomputable def pairF (p : Str × PyData) : PyData := .tuple [.str p.1, p.2]
inductive RepF (K : PySem.W.Frag) (O : Addr → Prop) (H : Hp) : List (Str × V) → List (Str × PyData) → Prop where
  | nil : RepF K O H [] []
  | cons {n : Str} {v : V} {d : PyData} {vs : List (Str × V)} {ds : List (Str × PyData)} : Rep K O H v d → RepF K O H vs ds → RepF K O H ((n, v) :: vs) ((n, d) :: ds)
theorem RepF.mono {K : PySem.W.Frag} {O O' : Addr → Prop} {H H' : Hp} (e : Le O H O' H') {vs : List (Str × V)} {ds : List (Str × PyData)} (r : RepF K O H vs ds) : RepF K O' H' vs ds := by
  induction r with
  | nil => exact .nil
  | cons r _ ih => exact .cons (Rep.mono e r) ih
noncomputable def RowAt (K : PySem.W.Frag) (O : Addr → Prop) (H : Hp) (a : Addr) (xs : List PyData) : Prop :=
  (isO xs = false ∧ ∃ vs, H a = some (.lst vs) ∧ Reps K O H vs xs) ∨ ∃ C dx fs fd, H a = some (.ins C dx fs) ∧ xs = tagO C :: fd.map pairF ∧ RepF K O H fs fd
theorem RowAt.mono {K : PySem.W.Frag} {O O' : Addr → Prop} {H H' : Hp} {a : Addr} {xs : List PyData} (h : RowAt K O H a xs) (k : ∀ o, H a = some o → H' a = some o) (l : Le O H O' H') : RowAt K O' H' a xs := by
  rcases h with ⟨n, vs, h1, h2⟩ | ⟨C, dx, fs, fd, h1, h2, h3⟩
  · exact .inl ⟨n, vs, k _ h1, h2.mono l⟩
  · exact .inr ⟨C, dx, fs, fd, k _ h1, h2, h3.mono l⟩
theorem RowAt.lst {K : PySem.W.Frag} {O : Addr → Prop} {H : Hp} {a : Addr} {xs : List PyData} (h : RowAt K O H a xs) (n : isO xs = false) : ∃ vs, H a = some (.lst vs) ∧ Reps K O H vs xs := by
  rcases h with ⟨_, h⟩ | ⟨C, dx, fs, fd, h1, h2, h3⟩
  · exact h
  · rw [h2] at n
    cases n
theorem rep_tag {K : PySem.W.Frag} {O : Addr → Prop} {H : Hp} {v : V} {y : PyData} (h : Rep K O H v (.dict [(.none, y)])) : False := by
  cases h with
  | dct _ _ r =>
    generalize hl : [(PyData.none, y)] = l at r
    cases r with
    | nil => cases hl
    | @cons k _ _ _ _ _ _ =>
      injection hl with h1 _
      injection h1 with h1 _
      rcases k with i | x
      · cases h1
      · cases h1
theorem Reps.notO {K : PySem.W.Frag} {O : Addr → Prop} {H : Hp} {vs : List V} {xs : List PyData} (r : Reps K O H vs xs) : isO xs = false := by
  cases r with
  | nil => rfl
  | cons h _ =>
    rename_i d _ _ _
    unfold isO
    split
    · rename_i e
      cases e
      exact (rep_tag h).elim
    · rfl
structure HC (K : PySem.W.Frag) (O : Addr → Prop) (ts : List Addr) (H : Hp) (T : Tp) : Prop where
  own : ∀ b ∈ ts, O b
  trk : ∀ b, O b → Mut (H b)
  nd : ts.Nodup
  len : ts.length = T.length
  tape : ∀ (i : Nat) (a : Addr) (xs : List PyData), ts[i]? = some a → T[i]? = some xs → RowAt K O H a xs
section
variable {K : PySem.W.Frag} {O : Addr → Prop} {ts : List Addr} {H H' : Hp} {T : Tp}
theorem HC.le (c : HC K O ts H T) (s : SameX ts H H') : Le O H O H' := fun a o n e => ⟨n, s a o (fun z => n (c.own a z)) e⟩
theorem HC.step (c : HC K O ts H T) (s : SameX ts H H') (t : ∀ b ∈ ts, H' b = H b) : HC K O ts H' T where
  own := c.own
  trk := fun b hb => by
    by_cases z : b ∈ ts
    · rw [t b z]; exact c.trk b hb
    · exact (c.trk b hb).to fun u e => s b _ z e
  nd := c.nd
  len := c.len
  tape := fun i a xs e1 e2 => by
    exact (c.tape i a xs e1 e2).mono (fun o h1 => by rw [t a (List.mem_of_getElem? e1)]; exact h1) (c.le s)
theorem HC.fresh (c : HC K O ts H T) {p : Addr} (h : H p = none) : ¬ O p := fun z => by
  obtain ⟨u, e⟩ := (c.trk p z).ex
  rw [h] at e
  cases e
theorem HC.new (c : HC K O ts H T) {p : Addr} (h : H p = none) (o : HO) : HC K O ts (upd H p o) T :=
  c.step (.new h o) fun b hb => upd_ne fun z => c.fresh h (z ▸ c.own b hb)
theorem HC.leNew (c : HC K O ts H T) {p : Addr} (h : H p = none) (o : HO) : Le O H O (upd H p o) := c.le (.new h o)
theorem HC.newT (c : HC K O ts H T) {p : Addr} (h : H p = none) {vs : List V} {ds : List PyData} (r : Reps K O H vs ds) : Rep K O (upd H p (.tup vs)) (.ref p) (.tuple ds) :=
  .tup (.inl ⟨c.fresh h, .inl upd_same⟩) (r.mono (c.leNew h _))
theorem HC.newL (c : HC K O ts H T) {p : Addr} (h : H p = none) {vs : List V} {ds : List PyData} (r : Reps K O H vs ds) : Rep K O (upd H p (.lst vs)) (.ref p) (.list ds) :=
  .lst (.inl ⟨c.fresh h, .inl upd_same⟩) (r.mono (c.leNew h _))
end
inductive Vw (K : PySem.W.Frag) (O : Addr → Prop) (H : Hp) : V → PyData → Prop where
  | rep {v : V} {x : PyData} : Rep K O H v x → Vw K O H v x
  | raw {a : Addr} {vs : List V} {xs : List PyData} : H a = some (.lst vs) → Reps K O H vs xs → Vw K O H (.ref a) (.list xs)
  | rawD {a : Addr} {kvs : List (Key × V)} {ds : List (PyData × PyData)} : H a = some (.dK kvs) → RepK K O H kvs ds → Vw K O H (.ref a) (.dict ds)
section
variable {K : PySem.W.Frag} {O : Addr → Prop} {H : Hp} {v : V}
theorem Vw.int {i : Int} (h : Vw K O H v (.int i)) : v = .int i := by cases h with | rep h => cases h; rfl
theorem Vw.str {x : Str} (h : Vw K O H v (.str x)) : v = .str x := by cases h with | rep h => cases h; rfl
theorem Vw.bl {b : Bool} (h : Vw K O H v (.bool b)) : v = .bl b := by cases h with | rep h => cases h; rfl
theorem Vw.non (h : Vw K O H v .none) : v = .non := by cases h with | rep h => cases h; rfl
theorem Vw.tup {ds : List PyData} (h : Vw K O H v (.tuple ds)) : ∃ a vs, v = .ref a ∧ TupAt K O H a vs ∧ Reps K O H vs ds := by
  cases h with | rep h => cases h with | tup t r => exact ⟨_, _, rfl, t, r⟩
theorem Vw.tupR {ds : List PyData} (h : Vw K O H v (.tuple ds)) : Rep K O H v (.tuple ds) := by cases h with | rep h => exact h
theorem Vw.lst {ds : List PyData} (h : Vw K O H v (.list ds)) : ∃ a vs, v = .ref a ∧ SqL K H a vs ∧ Reps K O H vs ds := by
  cases h with
  | rep h => cases h with | lst t r => exact ⟨_, _, rfl, t.sq, r⟩
  | raw h r => exact ⟨_, _, rfl, SqL.of h, r⟩
theorem Vw.dct {ds : List (PyData × PyData)} (h : Vw K O H v (.dict ds)) : ∃ a kvs, v = .ref a ∧ Rd H a (.dK kvs) ∧ RepK K O H kvs ds := by
  cases h with
  | rep h => cases h with | dct n t r => exact ⟨_, _, rfl, .inr ⟨_, t⟩, r⟩
  | rawD t r => exact ⟨_, _, rfl, .inl t, r⟩
end
noncomputable def OwnAt (K : PySem.W.Frag) (O : Addr → Prop) (H : Hp) (a : Addr) : PyData → Prop
  | .list xs => ∃ vs, H a = some (.lst vs) ∧ Reps K O H vs xs
  | .dict ds => ∃ kvs, H a = some (.dK kvs) ∧ RepK K O H kvs ds
  | _ => False
theorem OwnAt.mono {K : PySem.W.Frag} {O O' : Addr → Prop} {H H' : Hp} {a : Addr} {x : PyData} (h : OwnAt K O H a x) (k : ∀ o, H a = some o → H' a = some o) (l : Le O H O' H') : OwnAt K O' H' a x := by
  cases x with
  | list xs => obtain ⟨vs, h1, h2⟩ := h; exact ⟨vs, k _ h1, h2.mono l⟩
  | dict ds => obtain ⟨vs, h1, h2⟩ := h; exact ⟨vs, k _ h1, h2.mono l⟩
  | _ => cases h
theorem OwnAt.some {K : PySem.W.Frag} {O : Addr → Prop} {H : Hp} {a : Addr} {x : PyData} (h : OwnAt K O H a x) : ∃ o, H a = some o := by
  cases x with
  | list xs => obtain ⟨vs, h1, h2⟩ := h; exact ⟨_, h1⟩
  | dict ds => obtain ⟨vs, h1, h2⟩ := h; exact ⟨_, h1⟩
  | _ => cases h
noncomputable def RepW (K : PySem.W.Frag) (O : Addr → Prop) (ts : List Addr) (H : Hp) (v : V) : W → Prop
  | .d x => Rep K O H v x
  | .tp i => ∃ a, ts[i]? = some a ∧ v = .ref a
  | .loc x => ∃ a, v = .ref a ∧ O a ∧ a ∉ ts ∧ OwnAt K O H a x
noncomputable def rowV (xs : List PyData) : Option PyData := if isO xs = true then none else some (.list xs)
noncomputable def view (T : Tp) : W → Option PyData
  | .d x => some x
  | .tp i => (T[i]?).bind rowV
  | .loc (.list xs) => some (.list xs)
  | .loc (.dict ds) => some (.dict ds)
  | .loc _ => none
noncomputable def views (T : Tp) : List W → Option (List PyData)
  | [] => some []
  | w :: r => match view T w with
    | some x => (match views T r with
      | some xs => some (x :: xs)
      | none => none)
    | none => none
noncomputable def RepWs (K : PySem.W.Frag) (O : Addr → Prop) (ts : List Addr) (H : Hp) : List V → List W → Prop := Paired fun v w => RepW K O ts H v w
noncomputable def Vws (K : PySem.W.Frag) (O : Addr → Prop) (H : Hp) : List V → List PyData → Prop := Paired fun v x => Vw K O H v x
noncomputable def RelE (K : PySem.W.Frag) (O : Addr → Prop) (ts : List Addr) (H : Hp) (σ : L2.St) (ρ : Rho) : Prop := ∀ (i : Nat) (w : W), ρ[i]? = some (some w) → ∃ v, σ[i]? = some (some v) ∧ RepW K O ts H v w
section
variable {K : PySem.W.Frag} {O : Addr → Prop} {ts : List Addr} {H H' : Hp} {T : Tp} {v : V} {w : W}
theorem RepW.mono (r : RepW K O ts H v w) (c : HC K O ts H T) (s : SameX ts H H') : RepW K O ts H' v w := by
  cases w with
  | d x => exact Rep.mono (c.le s) r
  | tp i => exact r
  | loc xs =>
    obtain ⟨a, e, h1, h2, h3⟩ := r
    exact ⟨a, e, h1, h2, h3.mono (fun o q => s _ _ h2 q) (c.le s)⟩
theorem RelE.mono {σ : L2.St} {ρ : Rho} (r : RelE K O ts H σ ρ) (c : HC K O ts H T) (s : SameX ts H H') : RelE K O ts H' σ ρ := fun i w e =>
  let ⟨v, h1, h2⟩ := r i w e; ⟨v, h1, h2.mono c s⟩
theorem RepWs.mono {vs : List V} {ws : List W} (r : RepWs K O ts H vs ws) (c : HC K O ts H T) (s : SameX ts H H') : RepWs K O ts H' vs ws := Paired.mapP r fun _ _ h => h.mono c s
theorem HC.view (c : HC K O ts H T) {x : PyData} (r : RepW K O ts H v w) (e : view T w = some x) : Vw K O H v x := by
  cases w with
  | d y => cases e; exact .rep r
  | tp i =>
    obtain ⟨a, h1, rfl⟩ := r
    have e' : (T[i]?).bind rowV = some x := e
    cases ht : T[i]? with
    | none => rw [ht] at e'; cases e'
    | some xs =>
      rw [ht] at e'
      have e2 : (if isO xs = true then none else some (PyData.list xs)) = some x := e'
      split at e2
      · cases e2
      · rename_i hn
        cases e2
        obtain ⟨vs, h2, h3⟩ := (c.tape i a xs h1 ht).lst (by simpa using hn)
        exact .raw h2 h3
  | loc xs =>
    obtain ⟨a, rfl, _, _, h3⟩ := r
    cases xs with
    | list xs => cases e; obtain ⟨vs, h1, h2⟩ := h3; exact .raw h1 h2
    | dict ds => cases e; obtain ⟨vs, h1, h2⟩ := h3; exact .rawD h1 h2
    | _ => cases h3
theorem HC.views (c : HC K O ts H T) : ∀ {vs : List V} {ws : List W} {xs : List PyData}, RepWs K O ts H vs ws → views T ws = some xs → Vws K O H vs xs
  | _, [], xs, .nil, e => by cases e; exact .nil
  | _, w :: r, xs, .cons h t, e => by
    unfold D.views at e
    split at e
    · rename_i x h1
      split at e
      · rename_i ys h2
        cases e
        exact .cons (c.view h h1) (HC.views c t h2)
      · cases e
    · cases e
end
end D
namespace D
open PySem PySem.Spec PyProof.Rows L2
noncomputable def noStar : Expr → Bool
  | .Starred _ _ => false
  | _ => true
theorem star_cons {e : Expr} {es : List Expr} {env : Env} (h : noStar e = true) : starEach (e :: es) env = (false, eval e env) :: starEach es env := by
  cases e <;> first | rfl | cases h
theorem star_one {e : Expr} {env : Env} (h : noStar e = true) : starEach [e] env = [(false, eval e env)] := star_cons h
theorem star_two {e e' : Expr} {env : Env} (h : noStar e = true) (h' : noStar e' = true) : starEach [e, e'] env = [(false, eval e env), (false, eval e' env)] := by rw [star_cons h, star_one h']
theorem star_any {env : Env} {pos : Pos} : ∀ {es : List Expr}, es.all noStar = true → (backTo pos (starEach es env)).any (·.1) = false
  | [], _ => rfl
  | e :: r, h => by
    rw [List.all_cons, Bool.and_eq_true] at h
    rw [star_cons h.1]
    show (false || (backTo pos (starEach r env)).any (·.1)) = false
    rw [star_any h.2]
    rfl
theorem star_back {e : Expr} {es : List Expr} {env : Env} {pos : Pos} (h : noStar e = true) : backTo pos (starEach (e :: es) env) = (false, eval e env) :: backTo pos (starEach es env) := by
  rw [star_cons h]
  rfl
theorem few1 {e : Expr} {env : Env} {cpos : Pos} (h : noStar e = true) : ((backTo cpos (starEach [e] env)).all (fun x => !x.1) && (backToKw cpos (keywordEach [] env)).all (fun x => x.1.isSome)
      && decide (([e] : List Expr).length + ([] : List Keyword).length + (if ([] : List Keyword).isEmpty then 0 else 1) < 30)) = true := by
  rw [star_one h]
  rfl
noncomputable abbrev FE := Rho → Tp → Option (W × Tp)
noncomputable abbrev FT := Rho → Tp → Option (Bool × Tp)
noncomputable abbrev FA := Rho → Tp → Option (List W × Tp)
inductive LiftP (K : PySem.W.Frag) (f : FE) (σ : L2.St) (H : Hp) (Q : VK) : Prop where
  | mk (O : Addr → Prop) (ts : List Addr) (ρ : Rho) (T : Tp) (w : W) (T' : Tp) (hc : HC K O ts H T) (re : RelE K O ts H σ ρ) (e : f ρ T = some (w, T')) (q : ∀ v H', SameX ts H H' → HC K O ts H' T' → RepW K O ts H' v w → Q v H') : LiftP K f σ H Q
noncomputable def lift (K : PySem.W.Frag) (f : FE) : TE := fun σ H Q => LiftP K f σ H Q
inductive LiftTP (K : PySem.W.Frag) (f : FT) (σ : L2.St) (H : Hp) (Q : Bool → Hp → Prop) : Prop where
  | mk (O : Addr → Prop) (ts : List Addr) (ρ : Rho) (T : Tp) (b : Bool) (T' : Tp) (hc : HC K O ts H T) (re : RelE K O ts H σ ρ) (e : f ρ T = some (b, T')) (q : ∀ H', SameX ts H H' → HC K O ts H' T' → Q b H') : LiftTP K f σ H Q
noncomputable def liftT (K : PySem.W.Frag) (f : FT) : TT := fun σ H Q => LiftTP K f σ H Q
inductive LiftAP (K : PySem.W.Frag) (f : FA) (σ : L2.St) (H : Hp) (Q : List V → Hp → Prop) : Prop where
  | mk (O : Addr → Prop) (ts : List Addr) (ρ : Rho) (T : Tp) (ws : List W) (T' : Tp) (hc : HC K O ts H T) (re : RelE K O ts H σ ρ) (e : f ρ T = some (ws, T')) (q : ∀ vs H', SameX ts H H' → HC K O ts H' T' → RepWs K O ts H' vs ws → Q vs H') : LiftAP K f σ H Q
noncomputable def liftA (K : PySem.W.Frag) (f : FA) : TA := fun σ H Q => LiftAP K f σ H Q
structure DE (X : Cx) (e : Expr) (f : FE) : Prop where
  pe : PE X e (lift X.K f)
structure DT (X : Cx) (e : Expr) (f : FT) : Prop where
  pe : PT X e (liftT X.K f)
structure DW (X : Cx) (e : Expr) (f : FT) : Prop where
  pe : PW X e (liftT X.K f)
structure DA (X : Cx) (es : List Expr) (f : FA) : Prop where
  pe : PA X es (liftA X.K f)
theorem pe_imp {X : Cx} {e : Expr} {t t' : TE} (h : PE X e t) (i : ∀ σ H Q, t' σ H Q → t σ H Q) : PE X e t' := fun pins s σ H Q I q => h pins s σ H Q I (i σ H Q q)
theorem pt_imp {X : Cx} {e : Expr} {t t' : TT} (h : PT X e t) (i : ∀ σ H Q, t' σ H Q → t σ H Q) : PT X e t' := fun pins s σ H Q I q => h pins s σ H Q I (i σ H Q q)
theorem pw_imp {X : Cx} {e : Expr} {t t' : TT} (h : PW X e t) (i : ∀ σ H Q, t' σ H Q → t σ H Q) : PW X e t' := fun wh pins s σ H Q I q => h wh pins s σ H Q I (i σ H Q q)
theorem pa_imp {X : Cx} {e : List Expr} {t t' : TA} (h : PA X e t) (i : ∀ σ H Q, t' σ H Q → t σ H Q) : PA X e t' := fun po pins s σ H Q I q => h po pins s σ H Q I (i σ H Q q)
noncomputable def fVar (i : Nat) : FE := fun ρ T => match ρ[i]? with
  | some (some w) => some (w, T)
  | _ => none
noncomputable def fC (x : PyData) : FE := fun _ T => some (.d x, T)
section
variable {X : Cx} {pos : Pos}
theorem de_var (i : Nat) {x : Str} (hN : X.N[i]? = some x := by rfl) (hv : Vis X.env.scope x := by first | exact Or.inl rfl | exact Or.inr (Or.inl rfl) | exact Or.inr (Or.inr rfl)) (hd : (x == ("__debug__" : Str)) = false := by decide)
    (hcd : (x == ("__classdict__" : Str)) = false := by decide) : DE X (.Name x pos) (fVar i) := by
  refine ⟨?_⟩
  refine pe_imp (pv i hN hv hd hcd) fun σ H Q => ?_
  rintro ⟨O, ts, ρ, T, w, T', hc, re, e, q⟩
  unfold fVar at e
  split at e
  · rename_i w' he
    cases e
    obtain ⟨v, h1, h2⟩ := re i _ he
    exact ⟨v, h1, q v H (.refl _ _) hc h2⟩
  · cases e
theorem lift_c {x : PyData} {v : V} (h : ∀ O H, Rep X.K O H v x) : ∀ σ H Q, lift X.K (fC x) σ H Q → tC v σ H Q := by
  rintro σ H Q ⟨O, ts, ρ, T, w, T', hc, re, e, q⟩
  cases e
  exact q v H (.refl _ _) hc (h O H)
theorem de_int {i j} : DE X (.Constant (.int i) j pos) (fC (.int i)) := ⟨pe_imp pe_int (lift_c fun _ _ => .int i)⟩
theorem de_bl {i j} : DE X (.Constant (.bool i) j pos) (fC (.bool i)) := ⟨pe_imp pe_bl (lift_c fun _ _ => .bl i)⟩
theorem de_str {i j} : DE X (.Constant (.str i) j pos) (fC (.str i)) := ⟨pe_imp pe_str (lift_c fun _ _ => .str i)⟩
theorem de_non {j} : DE X (.Constant .none j pos) (fC .none) := ⟨pe_imp pe_non (lift_c fun _ _ => .non)⟩
theorem de_globI {x : Str} {i : Int} (hg : Gl X x) (hm : ∃ t, X.mg x = some (.int i t)) (hd : (x == ("__debug__" : Str)) = false := by decide) : DE X (.Name x pos) (fC (.int i)) := by
  refine ⟨?_⟩
  obtain ⟨t, hm⟩ := hm
  exact pe_imp (pe_glob (v := .int i) hg hm ⟨t, rfl⟩ hd) (lift_c fun _ _ => .int i)
theorem de_globS {x : Str} {i : Str} (hg : Gl X x) (hm : ∃ t, X.mg x = some (.str i t)) (hd : (x == ("__debug__" : Str)) = false := by decide) : DE X (.Name x pos) (fC (.str i)) := by
  refine ⟨?_⟩
  obtain ⟨t, hm⟩ := hm
  exact pe_imp (pe_glob (v := .str i) hg hm ⟨t, rfl⟩ hd) (lift_c fun _ _ => .str i)
end
noncomputable def op1 (g : PyData → Option PyData) (T : Tp) (w : W) : Option (W × Tp) := match view T w with
  | some x => match g x with
    | some d => some (.d d, T)
    | none => none
  | none => none
noncomputable def op2 (g : PyData → PyData → Option PyData) (T : Tp) (w1 w2 : W) : Option (W × Tp) := match view T w1, view T w2 with
  | some x, some y => match g x y with
    | some d => some (.d d, T)
    | none => none
  | _, _ => none
theorem op1_of {g : PyData → Option PyData} {T T' : Tp} {w1 w : W} (e : op1 g T w1 = some (w, T')) : ∃ x d, view T w1 = some x ∧ g x = some d ∧ w = .d d ∧ T' = T := by
  unfold op1 at e
  split at e
  · rename_i x h1
    split at e
    · rename_i d h3
      cases e
      exact ⟨x, d, h1, h3, rfl, rfl⟩
    · cases e
  · cases e
theorem op2_of {g : PyData → PyData → Option PyData} {T T' : Tp} {w1 w2 w : W} (e : op2 g T w1 w2 = some (w, T')) : ∃ x y d, view T w1 = some x ∧ view T w2 = some y ∧ g x y = some d ∧ w = .d d ∧ T' = T := by
  unfold op2 at e
  split at e
  · rename_i x y h1 h2
    split at e
    · rename_i d h3
      cases e
      exact ⟨x, y, d, h1, h2, h3, rfl, rfl⟩
    · cases e
  · cases e
noncomputable def fBin (g : PyData → PyData → Option PyData) (fa fb : FE) : FE := fun ρ T => bnd (fa ρ T) fun w1 T1 => bnd (fb ρ T1) fun w2 T2 => op2 g T2 w1 w2
noncomputable def fUn (g : PyData → Option PyData) (fa : FE) : FE := fun ρ T => bnd (fa ρ T) fun w1 T1 => op1 g T1 w1
noncomputable def Snd2 (K : PySem.W.Frag) (r : R2) (g : PyData → PyData → Option PyData) : Prop := ∀ (O : Addr → Prop) (ts : List Addr) (H : Hp) (T : Tp) (v1 v2 : V) (x y d : PyData) (Q : VK), HC K O ts H T → Vw K O H v1 x → Vw K O H v2 y → g x y = some d →
  (∀ v H', SameX ts H H' → HC K O ts H' T → Rep K O H' v d → Q v H') → r v1 v2 H Q
noncomputable def Snd1 (K : PySem.W.Frag) (r : V → Hp → VK → Prop) (g : PyData → Option PyData) : Prop := ∀ (O : Addr → Prop) (ts : List Addr) (H : Hp) (T : Tp) (v1 : V) (x d : PyData) (Q : VK), HC K O ts H T → Vw K O H v1 x → g x = some d →
  (∀ v H', SameX ts H H' → HC K O ts H' T → Rep K O H' v d → Q v H') → r v1 H Q
noncomputable def OpD (X : Cx) (f : Value → Value → Sem Value) (g : PyData → PyData → Option PyData) : Prop := ∃ r, OpR X f r ∧ Snd2 X.K r g
noncomputable def IxD (X : Cx) (g : PyData → PyData → Option PyData) : Prop := ∃ r, IxR X r ∧ Snd2 X.K r g
theorem bin_imp {K : PySem.W.Frag} {r : R2} {g : PyData → PyData → Option PyData} {fa fb : FE} (snd : Snd2 K r g) {σ : L2.St} {H : Hp} {Q : VK} (h : lift K (fBin g fa fb) σ H Q) : tOp r (lift K fa) (lift K fb) σ H Q := by
  obtain ⟨O, ts, ρ, T, w, T', hc, re, e, q⟩ := h
  obtain ⟨w1, T1, e1, e⟩ := bnd_of e
  obtain ⟨w2, T2, e2, e⟩ := bnd_of e
  obtain ⟨x, y, d, h1, h2, h3, rfl, rfl⟩ := op2_of e
  refine ⟨O, ts, ρ, T, w1, T1, hc, re, e1, fun v1 H1 s1 hc1 r1 => ?_⟩
  refine ⟨O, ts, ρ, T1, w2, T', hc1, re.mono hc s1, e2, fun v2 H2 s2 hc2 r2 => ?_⟩
  exact snd O ts H2 T' v1 v2 x y d Q hc2 (hc2.view (r1.mono hc1 s2) h1) (hc2.view r2 h2) h3 fun v H' s3 hc3 r3 => q v H' (s1.trans (s2.trans s3)) hc3 r3
noncomputable def asB : W → Option Bool
  | .d (.bool b) => some b
  | _ => none
theorem asB_of {w : W} {b : Bool} (h : asB w = some b) : w = .d (.bool b) := by
  unfold asB at h
  split at h
  · cases h; rfl
  · cases h
noncomputable def fTst (f : FE) : FT := fun ρ T => bnd (f ρ T) fun w T1 => match asB w with
  | some b => some (b, T1)
  | none => none
theorem tst_imp {K : PySem.W.Frag} {f : FE} {σ : L2.St} {H : Hp} {Q : Bool → Hp → Prop} (h : liftT K (fTst f) σ H Q) : lift K f σ H fun x H' => ∃ k, x = .bl k ∧ Q k H' := by
  obtain ⟨O, ts, ρ, T, w, T', hc, re, e, q⟩ := h
  obtain ⟨w1, T1, e1, e⟩ := bnd_of e
  refine ⟨O, ts, ρ, T, w1, T1, hc, re, e1, fun v1 H1 s1 hc1 r1 => ?_⟩
  split at e
  · rename_i b hb
    cases e
    have hw := asB_of hb
    subst hw
    cases (show Rep K O H1 v1 _ from r1)
    exact ⟨_, rfl, q H1 s1 hc1⟩
  · cases e
section
variable {X : Cx} {pos : Pos} {a b c : Expr} {fa fb fc : FE} {g g' : PyData → PyData → Option PyData}
theorem de_bin {op : Operator} (ho : OpD X (binaryOp op) g) (ha : DE X a fa) (hb : DE X b fb) : DE X (.BinOp a op b pos) (fBin g fa fb) := by
  refine ⟨?_⟩
  obtain ⟨r, hr, snd⟩ := ho
  exact pe_imp (pe_op hr ha.pe hb.pe) fun σ H Q => bin_imp snd
theorem de_cmp {op : CmpOp} (ho : OpD X (compareOp op) g) (ha : DE X a fa) (hb : DE X b fb) (hm : behindInMarks op b = false := by first | exact nomark _ | with_unfolding_all rfl) : DE X (.Compare a [op] [b] pos) (fBin g fa fb) := by
  refine ⟨?_⟩
  obtain ⟨r, hr, snd⟩ := ho
  exact pe_imp (pe_cmpR hr ha.pe hb.pe hm) fun σ H Q => bin_imp snd
theorem dt_cmp {op : CmpOp} (ho : OpD X (compareOp op) g) (ha : DE X a fa) (hb : DE X b fb) (hm : behindInMarks op b = false := by first | exact nomark _ | with_unfolding_all rfl) : DT X (.Compare a [op] [b] pos) (fTst (fBin g fa fb)) := by
  refine ⟨?_⟩
  obtain ⟨r, hr, snd⟩ := ho
  exact pt_imp (pt_cmpR hr ha.pe hb.pe hm) fun σ H Q h => bin_imp snd (tst_imp h)
theorem de_ix (ho : IxD X g) (ha : DE X a fa) (hb : DE X b fb) (hs : PlainIx b := by exact fun _ _ => rfl) : DE X (.Subscript a b pos) (fBin g fa fb) := by
  refine ⟨?_⟩
  obtain ⟨r, hr, snd⟩ := ho
  exact pe_imp (pe_ix hr ha.pe hb.pe hs) fun σ H Q => bin_imp snd
noncomputable def fChain (g g' : PyData → PyData → Option PyData) (fa fb fc : FE) : FE := fun ρ T => bnd (fa ρ T) fun w1 T1 => bnd (fb ρ T1) fun w2 T2 => bnd (op2 g T2 w1 w2) fun w T3 => match asB w with
  | some b => if b = true then bnd (fc ρ T3) fun w3 T4 => op2 g' T4 w2 w3 else some (.d (.bool false), T3)
  | none => none
theorem chain_imp {K : PySem.W.Frag} {r r' : R2} (snd : Snd2 K r g) (snd' : Snd2 K r' g') {σ : L2.St} {H : Hp} {Q : VK} (h : lift K (fChain g g' fa fb fc) σ H Q) : tChain r r' (lift K fa) (lift K fb) (lift K fc) σ H Q := by
  obtain ⟨O, ts, ρ, T, w, T', hc, re, e, q⟩ := h
  obtain ⟨w1, T1, e1, e⟩ := bnd_of e
  obtain ⟨w2, T2, e2, e⟩ := bnd_of e
  obtain ⟨wz, T3, e3, ez⟩ := bnd_of e
  obtain ⟨x, y, d, h1, h2, h3, rfl, rfl⟩ := op2_of e3
  clear e
  refine ⟨O, ts, ρ, T, w1, T1, hc, re, e1, fun v1 H1 s1 hc1 r1 => ?_⟩
  refine ⟨O, ts, ρ, T1, w2, T3, hc1, re.mono hc s1, e2, fun v2 H2 s2 hc2 r2 => ?_⟩
  refine snd O ts H2 T3 v1 v2 x y d _ hc2 (hc2.view (r1.mono hc1 s2) h1) (hc2.view r2 h2) h3 fun v H3 s3 hc3 r3 => ?_
  split at ez
  · rename_i b hb
    have hd := asB_of hb
    injection hd with hd
    subst hd
    cases r3
    cases b with
    | true =>
      rw [if_pos rfl] at ez
      refine ⟨true, rfl, iteT ?_⟩
      obtain ⟨w3, T4, e4, e5⟩ := bnd_of ez
      obtain ⟨x', y', d', h1', h2', h3', rfl, rfl⟩ := op2_of e5
      refine ⟨O, ts, ρ, T3, w3, T', hc3, (re.mono hc (s1.trans (s2.trans s3))), e4, fun v3 H4 s4 hc4 r4 => ?_⟩
      exact snd' O ts H4 T' v2 v3 x' y' d' Q hc4 (hc4.view (r2.mono hc2 (s3.trans s4)) h1') (hc4.view r4 h2') h3' fun v H' s5 hc5 r5 => q v H' (s1.trans (s2.trans (s3.trans (s4.trans s5)))) hc5 r5
    | false =>
      rw [if_neg Bool.false_ne_true] at ez
      cases ez
      exact ⟨false, rfl, iteF (q _ H3 (s1.trans (s2.trans s3)) hc3 (.bl false))⟩
  · cases ez
theorem de_chain {op op' : CmpOp} (ho : OpD X (compareOp op) g) (ho' : OpD X (compareOp op') g') (ha : DE X a fa) (hb : DE X b fb) (hc : DE X c fc)
    (hm : lastMarks [op, op'] [b, c] = false := by with_unfolding_all rfl) : DE X (.Compare a [op, op'] [b, c] pos) (fChain g g' fa fb fc) := by
  refine ⟨?_⟩
  obtain ⟨r, hr, snd⟩ := ho
  obtain ⟨r', hr', snd'⟩ := ho'
  exact pe_imp (pe_chain hr hr' ha.pe hb.pe hc.pe hm) fun σ H Q => chain_imp snd snd'
theorem dt_chain {op op' : CmpOp} (ho : OpD X (compareOp op) g) (ho' : OpD X (compareOp op') g') (ha : DE X a fa) (hb : DE X b fb) (hc : DE X c fc)
    (hm : lastMarks [op, op'] [b, c] = false := by with_unfolding_all rfl) : DT X (.Compare a [op, op'] [b, c] pos) (fTst (fChain g g' fa fb fc)) := by
  refine ⟨?_⟩
  obtain ⟨r, hr, snd⟩ := ho
  obtain ⟨r', hr', snd'⟩ := ho'
  exact pt_imp (pt_chain hr hr' ha.pe hb.pe hc.pe hm) fun σ H Q h => chain_imp snd snd' (tst_imp h)
noncomputable def truD : PyData → Option Bool
  | .none => some false
  | .bool b => some b
  | .int i => some (i != 0)
  | .str y => if y.length ≤ sizeLine then some ((y.length : Int) != 0) else none
  | .list xs => some (!xs.isEmpty)
  | .tuple xs => some (!xs.isEmpty)
  | .dict _ => none
noncomputable def tru1 (T : Tp) (w : W) : Option (Bool × Tp) := match view T w with
  | some x => match truD x with
    | some b => some (b, T)
    | none => none
  | none => none
noncomputable def fTru (f : FE) : FT := fun ρ T => bnd (f ρ T) fun w T1 => tru1 T1 w
theorem reps_empty {K : PySem.W.Frag} {O : Addr → Prop} {H : Hp} {vs : List V} {ds : List PyData} (r : Reps K O H vs ds) : vs.isEmpty = ds.isEmpty := by cases r <;> rfl
theorem tru_of {K : PySem.W.Frag} {O : Addr → Prop} {H : Hp} {v : V} {x : PyData} {b : Bool} (h : Vw K O H v x) (e : truD x = some b) : TruV K v H b := by
  cases x with
  | none => cases h.non; cases e; rfl
  | bool c => cases h.bl; cases e; rfl
  | int i => cases h.int; cases e; rfl
  | str y =>
    cases h.str
    have e' : (if y.length ≤ sizeLine then some ((y.length : Int) != 0) else none) = some b := e
    split at e'
    · rename_i hl
      cases e'
      exact ⟨hl, rfl⟩
    · cases e'
  | list xs =>
    obtain ⟨a, vs, rfl, h1, h2⟩ := h.lst
    cases e
    exact .inl ⟨vs, h1, by rw [reps_empty h2]⟩
  | tuple xs =>
    obtain ⟨a, vs, rfl, h1, h2⟩ := h.tup
    cases e
    exact .inr (.inl ⟨vs, h1.sq, by rw [reps_empty h2]⟩)
  | dict kvs =>
    cases e
theorem dt_tru (ha : DE X a fa) (he : ∀ whole, isTrue a X.env whole = (do let v ← whole; standAt a.pos; holding [v] (truthy v)) := by intro _; rfl) : DT X a (fTru fa) := by
  refine ⟨?_⟩
  refine pt_imp (pt_truth ha.pe he) fun σ H Q => ?_
  rintro ⟨O, ts, ρ, T, b, T', hc, re, e, q⟩
  obtain ⟨w1, T1, e1, e⟩ := bnd_of e
  refine ⟨O, ts, ρ, T, w1, T1, hc, re, e1, fun v1 H1 s1 hc1 r1 => ?_⟩
  unfold tru1 at e
  split at e
  · rename_i x h1
    split at e
    · rename_i k h2
      cases e
      exact ⟨b, tru_of (hc1.view r1 h1) h2, q H1 s1 hc1⟩
    · cases e
  · cases e
noncomputable def fAndT (f g : FT) : FT := fun ρ T => bnd (f ρ T) fun b T1 => if b = true then g ρ T1 else some (false, T1)
noncomputable def fOrT (f g : FT) : FT := fun ρ T => bnd (f ρ T) fun b T1 => if b = true then some (true, T1) else g ρ T1
noncomputable def fNotT (f : FT) : FT := fun ρ T => bnd (f ρ T) fun b T1 => some (!b, T1)
variable {ta tb : FT} {rest : List Expr}
theorem dw_pt {f : FT} (h : DW X a f) : DT X a f := ⟨PW.pt h.pe⟩
theorem dw_and1 (ha : DT X a ta) : DW X (.BoolOp .And [a] pos) ta := ⟨pw_and1 ha.pe⟩
theorem dw_or1 (ha : DT X a ta) : DW X (.BoolOp .Or [a] pos) ta := ⟨pw_or1 ha.pe⟩
theorem dw_and (ha : DT X a ta) (hb : DW X (.BoolOp .And (b :: rest) pos) tb) : DW X (.BoolOp .And (a :: b :: rest) pos) (fAndT ta tb) := by
  refine ⟨?_⟩
  refine pw_imp (pw_and ha.pe hb.pe) fun σ H Q => ?_
  rintro ⟨O, ts, ρ, T, b, T', hc, re, e, q⟩
  obtain ⟨b1, T1, e1, e⟩ := bnd_of e
  refine ⟨O, ts, ρ, T, b1, T1, hc, re, e1, fun H1 s1 hc1 => ?_⟩
  cases b1 with
  | true => exact iteT ⟨O, ts, ρ, T1, b, T', hc1, re.mono hc s1, by simpa using e, fun H2 s2 hc2 => q H2 (s1.trans s2) hc2⟩
  | false =>
    have e' : some (false, T1) = some (b, T') := by simpa using e
    cases e'
    exact iteF (q H1 s1 hc1)
theorem dw_or (ha : DT X a ta) (hb : DW X (.BoolOp .Or (b :: rest) pos) tb) : DW X (.BoolOp .Or (a :: b :: rest) pos) (fOrT ta tb) := by
  refine ⟨?_⟩
  refine pw_imp (pw_or ha.pe hb.pe) fun σ H Q => ?_
  rintro ⟨O, ts, ρ, T, b, T', hc, re, e, q⟩
  obtain ⟨b1, T1, e1, e⟩ := bnd_of e
  refine ⟨O, ts, ρ, T, b1, T1, hc, re, e1, fun H1 s1 hc1 => ?_⟩
  cases b1 with
  | false => exact iteF ⟨O, ts, ρ, T1, b, T', hc1, re.mono hc s1, by simpa using e, fun H2 s2 hc2 => q H2 (s1.trans s2) hc2⟩
  | true =>
    have e' : some (true, T1) = some (b, T') := by simpa using e
    cases e'
    exact iteT (q H1 s1 hc1)
theorem dt_not (ha : DT X a ta) : DT X (.UnaryOp .Not a pos) (fNotT ta) := by
  refine ⟨?_⟩
  refine pt_imp (pt_not ha.pe) fun σ H Q => ?_
  rintro ⟨O, ts, ρ, T, b, T', hc, re, e, q⟩
  obtain ⟨b1, T1, e1, e⟩ := bnd_of e
  cases e
  exact ⟨O, ts, ρ, T, b1, T', hc, re, e1, fun H1 s1 hc1 => q H1 s1 hc1⟩
noncomputable def fAndV (f g : FE) : FE := fun ρ T => bnd (f ρ T) fun w T1 => match asB w with
  | some b => if b = true then g ρ T1 else some (.d (.bool false), T1)
  | none => none
noncomputable def fOrV (f g : FE) : FE := fun ρ T => bnd (f ρ T) fun w T1 => match asB w with
  | some b => if b = true then some (.d (.bool true), T1) else g ρ T1
  | none => none
noncomputable def fNotV (f : FE) : FE := fun ρ T => bnd (f ρ T) fun w T1 => match asB w with
  | some b => some (.d (.bool (!b)), T1)
  | none => none
theorem de_one {op} (h : DE X a fa) : DE X (.BoolOp op [a] pos) fa := ⟨pe_one h.pe⟩
theorem de_and (ha : DE X a fa) (hb : DE X (.BoolOp .And (b :: rest) pos) fb) : DE X (.BoolOp .And (a :: b :: rest) pos) (fAndV fa fb) := by
  refine ⟨?_⟩
  refine pe_imp (pe_and ha.pe hb.pe) fun σ H Q => ?_
  rintro ⟨O, ts, ρ, T, w, T', hc, re, e, q⟩
  obtain ⟨w1, T1, e1, e⟩ := bnd_of e
  refine ⟨O, ts, ρ, T, w1, T1, hc, re, e1, fun v1 H1 s1 hc1 r1 => ?_⟩
  split at e
  · rename_i b hb
    have hw := asB_of hb
    subst hw
    cases (show Rep X.K O H1 v1 _ from r1)
    cases b with
    | true => exact ⟨_, rfl, iteT ⟨O, ts, ρ, T1, w, T', hc1, re.mono hc s1, by simpa using e, fun v H2 s2 hc2 r2 => q v H2 (s1.trans s2) hc2 r2⟩⟩
    | false =>
      rw [if_neg Bool.false_ne_true] at e
      cases e
      exact ⟨_, rfl, iteF (q _ H1 s1 hc1 (.bl false))⟩
  · cases e
theorem de_or (ha : DE X a fa) (hb : DE X (.BoolOp .Or (b :: rest) pos) fb) : DE X (.BoolOp .Or (a :: b :: rest) pos) (fOrV fa fb) := by
  refine ⟨?_⟩
  refine pe_imp (pe_or ha.pe hb.pe) fun σ H Q => ?_
  rintro ⟨O, ts, ρ, T, w, T', hc, re, e, q⟩
  obtain ⟨w1, T1, e1, e⟩ := bnd_of e
  refine ⟨O, ts, ρ, T, w1, T1, hc, re, e1, fun v1 H1 s1 hc1 r1 => ?_⟩
  split at e
  · rename_i b hb
    have hw := asB_of hb
    subst hw
    cases (show Rep X.K O H1 v1 _ from r1)
    cases b with
    | false => exact ⟨_, rfl, iteF ⟨O, ts, ρ, T1, w, T', hc1, re.mono hc s1, by simpa using e, fun v H2 s2 hc2 r2 => q v H2 (s1.trans s2) hc2 r2⟩⟩
    | true =>
      rw [if_pos rfl] at e
      cases e
      exact ⟨_, rfl, iteT (q _ H1 s1 hc1 (.bl true))⟩
  · cases e
theorem de_not (ha : DE X a fa) : DE X (.UnaryOp .Not a pos) (fNotV fa) := by
  refine ⟨?_⟩
  refine pe_imp (pe_not ha.pe) fun σ H Q => ?_
  rintro ⟨O, ts, ρ, T, w, T', hc, re, e, q⟩
  obtain ⟨w1, T1, e1, e⟩ := bnd_of e
  refine ⟨O, ts, ρ, T, w1, T1, hc, re, e1, fun v1 H1 s1 hc1 r1 => ?_⟩
  split at e
  · rename_i b hb
    have hw := asB_of hb
    subst hw
    cases (show Rep X.K O H1 v1 _ from r1)
    cases e
    exact ⟨_, rfl, q _ H1 s1 hc1 (.bl _)⟩
  · cases e
noncomputable def fIfE (c : FT) (f g : FE) : FE := fun ρ T => bnd (c ρ T) fun b T1 => if b = true then f ρ T1 else g ρ T1
theorem de_if (hc : DT X c ta) (ha : DE X a fa) (hb : DE X b fb) : DE X (.IfExp c a b pos) (fIfE ta fa fb) := by
  refine ⟨?_⟩
  refine pe_imp (pe_ifExp hc.pe ha.pe hb.pe) fun σ H Q => ?_
  rintro ⟨O, ts, ρ, T, w, T', hc, re, e, q⟩
  obtain ⟨b1, T1, e1, e⟩ := bnd_of e
  refine ⟨O, ts, ρ, T, b1, T1, hc, re, e1, fun H1 s1 hc1 => ?_⟩
  cases b1 with
  | true => exact iteT ⟨O, ts, ρ, T1, w, T', hc1, re.mono hc s1, by simpa using e, fun v H2 s2 hc2 r2 => q v H2 (s1.trans s2) hc2 r2⟩
  | false => exact iteF ⟨O, ts, ρ, T1, w, T', hc1, re.mono hc s1, by simpa using e, fun v H2 s2 hc2 r2 => q v H2 (s1.trans s2) hc2 r2⟩
theorem de_un {op : UnaryOp} {r : V → Hp → VK → Prop} {g1 : PyData → Option PyData} (hr : UnR X (unaryOp op) r) (snd : Snd1 X.K r g1) (ha : DE X a fa) : DE X (.UnaryOp op a pos) (fUn g1 fa) := by
  refine ⟨?_⟩
  refine pe_imp (pe_un hr ha.pe) fun σ H Q => ?_
  rintro ⟨O, ts, ρ, T, w, T', hc, re, e, q⟩
  obtain ⟨w1, T1, e1, e⟩ := bnd_of e
  obtain ⟨x, d, h1, h3, rfl, rfl⟩ := op1_of e
  refine ⟨O, ts, ρ, T, w1, T', hc, re, e1, fun v1 H1 s1 hc1 r1 => ?_⟩
  exact snd O ts H1 T' v1 x d Q hc1 (hc1.view r1 h1) h3 fun v H' s3 hc3 r3 => q v H' (s1.trans s3) hc3 r3
end
noncomputable def fNil : FA := fun _ T => some ([], T)
noncomputable def fCons (f : FE) (g : FA) : FA := fun ρ T => bnd (f ρ T) fun w T1 => bnd (g ρ T1) fun ws T2 => some (w :: ws, T2)
noncomputable def datas : List W → Option (List PyData)
  | [] => some []
  | .d x :: r => match datas r with
    | some xs => some (x :: xs)
    | none => none
  | _ :: _ => none
theorem datas_of {K : PySem.W.Frag} {O : Addr → Prop} {ts : List Addr} {H : Hp} : ∀ {vs : List V} {ws : List W} {xs : List PyData}, RepWs K O ts H vs ws → datas ws = some xs → Reps K O H vs xs
  | _, [], _, .nil, e => by cases e; exact .nil
  | _, .d x :: r, xs, .cons h t, e => by
    unfold datas at e
    split at e
    · rename_i ys h2
      cases e
      exact .cons h (datas_of t h2)
    · cases e
  | _, .tp _ :: _, _, .cons _ _, e => by cases e
  | _, .loc _ :: _, _, .cons _ _, e => by cases e
noncomputable def fSeqD (mk : List PyData → PyData) (f : FA) : FE := fun ρ T => bnd (f ρ T) fun ws T1 => match datas ws with
  | some xs => if xs.length ≤ 1000 then some (.d (mk xs), T1) else none
  | none => none
theorem le_line {n : Nat} (h : n ≤ 1000) : n ≤ sizeLine := Nat.le_trans h (by decide)
noncomputable def CallD (X : Cx) (f : Value) (g : List PyData → Option PyData) : Prop := ∃ r, CallR X f r ∧ ∀ (O : Addr → Prop) (ts : List Addr) (H : Hp) (T : Tp) (vs : List V) (xs : List PyData) (d : PyData) (Q : VK), HC X.K O ts H T → Vws X.K O H vs xs → g xs = some d →
  (∀ v H', SameX ts H H' → HC X.K O ts H' T → Rep X.K O H' v d → Q v H') → r vs H Q
noncomputable def fCB (g : List PyData → Option PyData) (f : FA) : FE := fun ρ T => bnd (f ρ T) fun ws T1 => match views T1 ws with
  | some xs => match g xs with
    | some d => some (.d d, T1)
    | none => none
  | none => none
section
variable {X : Cx} {pos p : Pos} {e : Expr} {es : List Expr} {f : FE} {g : FA}
theorem da_nil : DA X [] fNil := by
  refine ⟨?_⟩
  refine pa_imp pa_nil fun σ H Q => ?_
  rintro ⟨O, ts, ρ, T, w, T', hc, re, e, q⟩
  cases e
  exact q [] H (.refl _ _) hc .nil
theorem da_cons (ha : DE X e f) (hr : DA X es g) (hs : starEach (e :: es) X.env = (false, eval e X.env) :: starEach es X.env := by exact star_cons rfl) : DA X (e :: es) (fCons f g) := by
  refine ⟨?_⟩
  refine pa_imp (pa_cons ha.pe hr.pe hs) fun σ H Q => ?_
  rintro ⟨O, ts, ρ, T, w, T', hc, re, e, q⟩
  obtain ⟨w1, T1, e1, e⟩ := bnd_of e
  obtain ⟨ws, T2, e2, e⟩ := bnd_of e
  cases e
  refine ⟨O, ts, ρ, T, w1, T1, hc, re, e1, fun v1 H1 s1 hc1 r1 => ?_⟩
  exact ⟨O, ts, ρ, T1, ws, _, hc1, re.mono hc s1, e2, fun vs H2 s2 hc2 r2 => q _ H2 (s1.trans s2) hc2 (.cons (r1.mono hc1 s2) r2)⟩
theorem seqD_of {mk : List PyData → PyData} {g : FA} {ρ : Rho} {T T' : Tp} {w : W} (e : fSeqD mk g ρ T = some (w, T')) : ∃ ws xs, g ρ T = some (ws, T') ∧ datas ws = some xs ∧ xs.length ≤ 1000 ∧ w = .d (mk xs) := by
  obtain ⟨ws, T1, e1, e⟩ := bnd_of e
  split at e
  · rename_i xs h1
    split at e
    · rename_i h2
      cases e
      exact ⟨ws, xs, e1, h1, h2, rfl⟩
    · cases e
  · cases e
theorem de_tup {x1} (h : DA X es g) : DE X (.Tuple es x1 pos) (fSeqD .tuple g) := by
  refine ⟨?_⟩
  refine pe_imp (pe_tup h.pe) fun σ H Q => ?_
  rintro ⟨O, ts, ρ, T, w, T', hc, re, e, q⟩
  obtain ⟨ws, xs, e1, h1, h2, rfl⟩ := seqD_of e
  refine ⟨O, ts, ρ, T, ws, T', hc, re, e1, fun vs H1 s1 hc1 r1 => ?_⟩
  have rs := datas_of r1 h1
  refine ⟨le_line (by rw [rs.length]; exact h2), fun p hp => ?_⟩
  exact q _ _ (s1.trans (.new hp _)) (hc1.new hp _) (hc1.newT hp rs)
theorem de_lst (h : DA X es g) : DE X (.List es pos) (fSeqD .list g) := by
  refine ⟨?_⟩
  refine pe_imp (pe_lst h.pe) fun σ H Q => ?_
  rintro ⟨O, ts, ρ, T, w, T', hc, re, e, q⟩
  obtain ⟨ws, xs, e1, h1, h2, rfl⟩ := seqD_of e
  refine ⟨O, ts, ρ, T, ws, T', hc, re, e1, fun vs H1 s1 hc1 r1 => ?_⟩
  have rs := datas_of r1 h1
  refine ⟨le_line (by rw [rs.length]; exact h2), fun p hp => ?_⟩
  exact q _ _ (s1.trans (.new hp _)) (hc1.new hp _) (hc1.newL hp rs)
theorem cb_imp {K : PySem.W.Frag} {r : List V → Hp → VK → Prop} {gg : List PyData → Option PyData} (snd : ∀ (O : Addr → Prop) (ts : List Addr) (H : Hp) (T : Tp) (vs : List V) (xs : List PyData) (d : PyData) (Q : VK), HC K O ts H T → Vws K O H vs xs → gg xs = some d →
    (∀ v H', SameX ts H H' → HC K O ts H' T → Rep K O H' v d → Q v H') → r vs H Q) {σ : L2.St} {H : Hp} {Q : VK} (h : lift K (fCB gg g) σ H Q) : tCB r (liftA K g) σ H Q := by
  obtain ⟨O, ts, ρ, T, w, T', hc, re, e, q⟩ := h
  obtain ⟨ws, T1, e1, e⟩ := bnd_of e
  refine ⟨O, ts, ρ, T, ws, T1, hc, re, e1, fun vs H1 s1 hc1 r1 => ?_⟩
  split at e
  · rename_i xs h1
    split at e
    · rename_i d h2
      cases e
      exact snd O ts H1 T' vs xs d Q hc1 (hc1.views r1 h1) h2 fun v H' s3 hc3 r3 => q v H' (s1.trans s3) hc3 r3
    · cases e
  · cases e
theorem de_callB {x : Str} {id : String} {gg : List PyData → Option PyData} (hc : CallD X (.builtin id) gg) (hg : Gl X x) (hm : X.mg x = none) (hv : bootBuiltins x = some (.builtin id)) (ha : DA X (e :: es) g) (hn : x ≠ "__name__" := by decide) (hdb : (x == ("__debug__" : Str)) = false := by decide)
    (he : starEach (e :: es) X.env = (false, eval e X.env) :: starEach es X.env := by exact star_cons rfl) (hpl : (backTo pos (starEach es X.env)).any (·.1) = false := by exact star_any rfl) : DE X (.Call (.Name x p) (e :: es) [] pos) (fCB gg g) := by
  refine ⟨?_⟩
  obtain ⟨r, hr, snd⟩ := hc
  exact pe_imp (pe_callB hr hg hm hv ha.pe hn hdb he hpl) fun σ H Q h => cb_imp snd h
theorem de_callTy {x : Str} {id : String} {gg : List PyData → Option PyData} (hc : CallD X (.type id) gg) (hg : Gl X x) (hm : X.mg x = none) (hv : bootBuiltins x = some (.type id)) (ha : DA X (e :: es) g) (hn : x ≠ "__name__" := by decide) (hdb : (x == ("__debug__" : Str)) = false := by decide)
    (he : starEach (e :: es) X.env = (false, eval e X.env) :: starEach es X.env := by exact star_cons rfl) (hpl : (backTo pos (starEach es X.env)).any (·.1) = false := by exact star_any rfl) : DE X (.Call (.Name x p) (e :: es) [] pos) (fCB gg g) := by
  refine ⟨?_⟩
  obtain ⟨r, hr, snd⟩ := hc
  exact pe_imp (pe_callTy hr hg hm hv ha.pe hn hdb he hpl) fun σ H Q h => cb_imp snd h
end
end D
namespace D
open PySem PySem.Spec PyProof.Rows L2
noncomputable abbrev FI := Rho → Tp → Option (List PyData × Tp)
noncomputable def iAny (K : PySem.W.Frag) (tl : TE) : TI := fun σ H R => tl σ H fun x H1 => (∃ a xs, x = .ref a ∧ SqL K H1 a xs ∧ (xs.length ≤ sizeLine → R (Itl K a) H1)) ∨ (∃ a xs, x = .ref a ∧ SqT K H1 a xs ∧ (xs.length ≤ sizeLine → R (Itt K a) H1)) ∨ (∃ z, x = .str z ∧ R (Its z) H1) ∨ ∃ a o kvs, x = .ref a ∧ H1 a = some (.frz o (.dK kvs)) ∧ (kvs.length ≤ sizeLine → R (Itd a o kvs) H1)
theorem pi_any {X : Cx} {tg l : Expr} {tl : TE} (hl : PE X l tl) : PI X tg l (iAny X.K tl) := by
  intro pins s σ H R I h
  refine thn (hl pins s σ H _ I h) fun v s1 ⟨x, H1, I1, r1, q1⟩ => ?_
  have fk : ∀ b ∈ [s1.heap.objs.size], FpOk X pins H1 b := fun b hb => by
    have e : b = s1.heap.objs.size := by simpa using hb
    subst e
    exact I1.fpOk (Nat.le_refl _) (I1.hok.fresh (Nat.le_refl _))
  rcases q1 with ⟨a, xs, e, hq, q⟩ | ⟨a, xs, e, hq, q⟩ | ⟨z, e, q⟩ | ⟨a, o, kvs, e, hq, q⟩
  · subst e
    cases r1
    obtain ⟨its, rv, p, hz⟩ := I1.list hq
    refine wpAny_pyIter_list p.isList ?_
    exact ⟨s1.heap.objs.size, [s1.heap.objs.size], _, _, H1, rfl, I1.kept (t' := s1.toks) fun b o e => Heap.get?_push_of_some _ e, turn_list a _, ⟨_, Heap.get?_push_size _ rfl, rfl, rfl⟩, fk, q hz⟩
  · subst e
    cases r1
    obtain ⟨its, rv, p, hz⟩ := I1.tuple hq
    refine wpAny_pyIter_tuple (show s1.heap.IsTuple a its.toArray from p) ?_
    exact ⟨s1.heap.objs.size, [s1.heap.objs.size], _, _, H1, rfl, I1.kept (t' := s1.toks) fun b o e => Heap.get?_push_of_some _ e, turn_tuple a _, ⟨_, Heap.get?_push_size _ rfl, rfl, rfl⟩, fk, q hz⟩
  · subst e
    obtain ⟨t, rfl⟩ := r1
    cases ha : z.cps.all (· < 128) with
    | false =>
      refine wpAny_pyIter_wide ha ?_
      exact ⟨s1.heap.objs.size, [s1.heap.objs.size], _, _, H1, rfl, I1.kept (t' := s1.toks) fun b o e => Heap.get?_push_of_some _ e, turn_str z t "str_iterator" _ (.inr rfl), ⟨_, Heap.get?_push_size _ rfl, rfl, rfl⟩, fk, q⟩
    | true =>
      refine wpAny_pyIter_ascii ha ?_
      exact ⟨s1.heap.objs.size, [s1.heap.objs.size], _, _, H1, rfl, I1.kept (t' := s1.toks) fun b o e => Heap.get?_push_of_some _ e, turn_str z t "str_ascii_iterator" _ (.inl rfl), ⟨_, Heap.get?_push_size _ rfl, rfl, rfl⟩, fk, q⟩
  · subst e
    cases r1
    obtain ⟨z, y, vs, kv, dd⟩ := dictAt_of I1.hok hq
    refine wpAny_pyIter_dict y dd ?_
    exact ⟨s1.heap.objs.size, [s1.heap.objs.size], _, _, H1, rfl, I1.kept (t' := s1.toks) fun b o e => Heap.get?_push_of_some _ e, turn_dict a _ o kvs, ⟨_, Heap.get?_push_size _ rfl, rfl, by rw [kv.length]; rfl⟩, fk, q z⟩
noncomputable def ItOk (K : PySem.W.Frag) (O : Addr → Prop) (H1 : Hp) (J : It) (ds : List PyData) : Prop := ∀ O' H', Le O H1 O' H' → (∀ i, i < ds.length → J.go i H') ∧ J.stop ds.length H' ∧ ∀ i v H'', J.yld i H' v H'' → i < ds.length → H'' = H' ∧ ∃ d, ds[i]? = some d ∧ Rep K O' H' v d
inductive LiftIP (K : PySem.W.Frag) (f : FI) (σ : L2.St) (H : Hp) (R : It → Hp → Prop) : Prop where
  | mk (O : Addr → Prop) (ts : List Addr) (ρ : Rho) (T : Tp) (ds : List PyData) (T' : Tp) (hc : HC K O ts H T) (re : RelE K O ts H σ ρ) (e : f ρ T = some (ds, T')) (q : ∀ J H1, SameX ts H H1 → HC K O ts H1 T' → ItOk K O H1 J ds → ds.length ≤ sizeLine → R J H1) : LiftIP K f σ H R
noncomputable def liftI (K : PySem.W.Frag) (f : FI) : TI := fun σ H R => LiftIP K f σ H R
structure DI (X : Cx) (tg e : Expr) (f : FI) : Prop where
  pe : PI X tg e (liftI X.K f)
theorem pi_imp {X : Cx} {tg e : Expr} {t t' : TI} (h : PI X tg e t) (i : ∀ σ H Q, t' σ H Q → t σ H Q) : PI X tg e t' := fun pins s σ H Q I q => h pins s σ H Q I (i σ H Q q)
noncomputable def signs (z : Str) : List PyData := z.cps.toList.map fun c => .str ⟨#[c]⟩
noncomputable def itemsD : PyData → Option (List PyData)
  | .list xs => some xs
  | .tuple xs => some xs
  | .str z => if z.length ≤ sizeLine then some (signs z) else none
  | .dict ds => some (ds.map (·.1))
  | _ => none
noncomputable def fIter (f : FE) : FI := fun ρ T => bnd (f ρ T) fun w T1 => match w with
  | .d x => match itemsD x with
    | some xs => some (xs, T1)
    | none => none
  | _ => none
theorem ItOk.lst {K : PySem.W.Frag} {O : Addr → Prop} {H1 : Hp} {a : Addr} {vs : List V} {ds : List PyData} (h : LstAt K O H1 a vs) (r : Reps K O H1 vs ds) : ItOk K O H1 (Itl K a) ds := fun O' H' le => by
  have sq := (h.mono le).sq
  have hl := r.length
  refine ⟨fun i hi => ⟨vs, vs[i]'(by omega), sq, by simp⟩, ⟨vs, sq, by omega⟩, fun i v H'' y hi => ?_⟩
  obtain ⟨e, y⟩ := y
  obtain ⟨d, h1, h2⟩ := r.get (y vs sq)
  exact ⟨e, d, h1, h2.mono le⟩
theorem ItOk.tup {K : PySem.W.Frag} {O : Addr → Prop} {H1 : Hp} {a : Addr} {vs : List V} {ds : List PyData} (h : TupAt K O H1 a vs) (r : Reps K O H1 vs ds) : ItOk K O H1 (Itt K a) ds := fun O' H' le => by
  have sq := (h.mono le).sq
  have hl := r.length
  refine ⟨fun i hi => ⟨vs, vs[i]'(by omega), sq, by simp⟩, ⟨vs, sq, by omega⟩, fun i v H'' y hi => ?_⟩
  obtain ⟨e, y⟩ := y
  obtain ⟨d, h1, h2⟩ := r.get (y vs sq)
  exact ⟨e, d, h1, h2.mono le⟩
theorem ItOk.str {K : PySem.W.Frag} {O : Addr → Prop} {H1 : Hp} {z : Str} : ItOk K O H1 (Its z) (signs z) := fun O' H' le => by
  have hl : (signs z).length = z.cps.size := by simp [signs]
  refine ⟨fun i hi => by rw [hl] at hi; exact hi, by rw [hl]; exact Nat.le_refl _, fun i v H'' y hi => ?_⟩
  obtain ⟨e, c, hc, y⟩ := y
  subst y
  refine ⟨e, .str ⟨#[c]⟩, ?_, .str _⟩
  unfold signs
  rw [List.getElem?_map]
  have : z.cps.toList[i]? = some c := by simpa using hc
  rw [this]
  rfl
theorem repk_leng {K : PySem.W.Frag} {O : Addr → Prop} {H : Hp} : ∀ {kvs : List (Key × V)} {ds : List (PyData × PyData)}, RepK K O H kvs ds → kvs.length = ds.length
  | _, _, .nil => rfl
  | _, _, .cons _ t => congrArg (· + 1) (repk_leng t)
theorem repk_key {K : PySem.W.Frag} {O : Addr → Prop} {H : Hp} : ∀ {kvs : List (Key × V)} {ds : List (PyData × PyData)} {i : Nat} {k : Key} {v : V}, RepK K O H kvs ds → kvs[i]? = some (k, v) → (ds.map (·.1))[i]? = some (keyD k)
  | _, _, _, _, _, .nil, e => by simp at e
  | _, _, 0, _, _, .cons r _, e => by simp at e; obtain ⟨rfl, rfl⟩ := e; rfl
  | _, _, i + 1, k, v, .cons _ t, e => by
    have := repk_key (i := i) t (by simpa using e)
    simpa using this
theorem rep_key {K : PySem.W.Frag} {O : Addr → Prop} {H : Hp} (k : Key) : Rep K O H (kV k) (keyD k) := by
  cases k with
  | inl i => exact .int i
  | inr x => exact .str x
theorem ItOk.dct {K : PySem.W.Frag} {O : Addr → Prop} {H1 : Hp} {a : Addr} {o : Obj} {kvs : List (Key × V)} {ds : List (PyData × PyData)} (n : ¬ O a) (h : H1 a = some (.frz o (.dK kvs))) (r : RepK K O H1 kvs ds) : ItOk K O H1 (Itd a o kvs) (ds.map (·.1)) := fun O' H' le => by
  have h' := (le a _ n h).2
  have hl := repk_leng r
  refine ⟨fun i hi => ⟨h', by simp at hi; omega⟩, ⟨h', by simp [hl]⟩, fun i v H'' y hi => ?_⟩
  obtain ⟨e, k, v0, y1, y2⟩ := y
  subst y2
  exact ⟨e, _, repk_key r y1, rep_key k⟩
theorem di_iter {X : Cx} {tg e : Expr} {f : FE} (h : DE X e f) : DI X tg e (fIter f) := by
  refine ⟨?_⟩
  refine pi_imp (pi_any h.pe) fun σ H R => ?_
  rintro ⟨O, ts, ρ, T, ds, T', hc, re, e, q⟩
  obtain ⟨w1, T1, e1, e⟩ := bnd_of e
  refine ⟨O, ts, ρ, T, w1, T1, hc, re, e1, fun v1 H1 s1 hc1 r1 => ?_⟩
  split at e
  · rename_i x
    split at e
    · rename_i xs h1
      cases e
      have rr : Rep X.K O H1 v1 x := r1
      cases x with
      | list ys =>
        cases h1
        cases rr with
        | lst t r => exact .inl ⟨_, _, rfl, t.sq, fun hz => q _ H1 s1 hc1 (.lst t r) (by rw [← r.length]; exact hz)⟩
      | tuple ys =>
        cases h1
        cases rr with
        | tup t r => exact .inr (.inl ⟨_, _, rfl, t.sq, fun hz => q _ H1 s1 hc1 (.tup t r) (by rw [← r.length]; exact hz)⟩)
      | str z =>
        have h1' : (if z.length ≤ sizeLine then some (signs z) else none) = some _ := h1
        split at h1'
        · rename_i hz
          cases h1'
          cases rr
          exact .inr (.inr (.inl ⟨z, rfl, q _ H1 s1 hc1 .str (by rw [show (signs z).length = z.cps.size by simp [signs]]; exact hz)⟩))
        · cases h1'
      | dict ys =>
        cases h1
        cases rr with
        | dct n t r => exact .inr (.inr (.inr ⟨_, _, _, rfl, t, fun hz => q _ H1 s1 hc1 (.dct n t r) (by rw [List.length_map, ← repk_leng r]; exact hz)⟩))
      | _ => cases h1
    · cases e
  · cases e
noncomputable def numsD (lo : Int) (n : Nat) : List PyData := (List.range n).map fun (i : Nat) => .int (lo + (i : Int))
theorem ItOk.rng {K : PySem.W.Frag} {O : Addr → Prop} {H1 : Hp} {lo : Int} {n : Nat} : ItOk K O H1 (Itr lo n) (numsD lo n) := fun O' H' le => by
  have hl : (numsD lo n).length = n := by simp [numsD]
  refine ⟨fun i hi => by rw [hl] at hi; exact hi, by rw [hl]; exact Nat.le_refl _, fun i v H'' y hi => ?_⟩
  obtain ⟨e, y⟩ := y
  subst y
  rw [hl] at hi
  exact ⟨e, .int (lo + i), by simp [numsD, hi], .int _⟩
noncomputable def rngOk (j : Int) : Bool := decide (-1000000 ≤ j ∧ j ≤ 16777216)
theorem rng_ok {j : Int} (h : rngOk j = true) : -(2 ^ 62) ≤ j ∧ j < 2 ^ 62 ∧ j.toNat ≤ sizeLine := by
  have h' := of_decide_eq_true h
  have e : sizeLine = 16777216 := by decide
  omega
noncomputable def fRng1 (f : FE) : FI := fun ρ T => bnd (f ρ T) fun w T1 => match w with
  | .d (.int j) => if rngOk j = true then some (numsD 0 j.toNat, T1) else none
  | _ => none
theorem di_rng1 {X : Cx} {tg a : Expr} {f : FE} {p pos : Pos} (hg : Gl X "range") (hm : X.mg "range" = none) (ha : DE X a f) (hs : starEach [a] X.env = [(false, eval a X.env)] := by exact star_one rfl) : DI X tg (.Call (.Name "range" p) [a] [] pos) (fRng1 f) := by
  refine ⟨?_⟩
  refine pi_imp (pi_range1 (ta := tCons (lift X.K f) tNil) hg hm (pa_cons ha.pe pa_nil (by rw [hs]; rfl)) hs) fun σ H R => ?_
  rintro ⟨O, ts, ρ, T, ds, T', hc, re, e, q⟩
  obtain ⟨w1, T1, e1, e⟩ := bnd_of e
  refine ⟨O, ts, ρ, T, w1, T1, hc, re, e1, fun v1 H1 s1 hc1 r1 => ?_⟩
  split at e
  · rename_i j
    split at e
    · rename_i h1
      cases e
      cases (show Rep X.K O H1 v1 _ from r1)
      obtain ⟨b1, b2, b3⟩ := rng_ok h1
      exact ⟨j, rfl, b1, b2, q _ H1 s1 hc1 .rng (by simpa [numsD] using b3)⟩
    · cases e
  · cases e
noncomputable def compL (c : FT) (e : FE) (ρ : Rho) : List PyData → Tp → Option (List PyData × Tp)
  | [], T => some ([], T)
  | d :: r, T => bnd (c (some (.d d) :: ρ) T) fun b T1 => if b = true then bnd (e (some (.d d) :: ρ) T1) fun w T2 => match w with
      | .d y => bnd (compL c e ρ r T2) fun ys T3 => some (y :: ys, T3)
      | _ => none
    else compL c e ρ r T1
noncomputable def fComp (it : FI) (c : FT) (e : FE) : FE := fun ρ T => bnd (it ρ T) fun ds T1 => bnd (compL c e ρ ds T1) fun ys T2 => some (.d (.list ys), T2)
noncomputable def fTrue : FT := fun _ T => some (true, T)
theorem RelE.cons {K : PySem.W.Frag} {O : Addr → Prop} {ts : List Addr} {H : Hp} {σ : L2.St} {ρ : Rho} {v : V} {d : PyData} (re : RelE K O ts H σ ρ) (r : Rep K O H v d) : RelE K O ts H (some v :: σ) (some (.d d) :: ρ) := fun i w e => by
  cases i with
  | zero => cases e; exact ⟨v, rfl, r⟩
  | succ i =>
    obtain ⟨u, h1, h2⟩ := re i w (by simpa using e)
    exact ⟨u, by simpa using h1, h2⟩
theorem comp_ok {K : PySem.W.Frag} {O : Addr → Prop} {ts : List Addr} {H1 : Hp} {σ : L2.St} {ρ : Rho} {J : It} {c : FT} {e : FE} {ds ys : List PyData} {T1 T2 : Tp} {Dn : List V → Hp → Prop} (hc : HC K O ts H1 T1) (re : RelE K O ts H1 σ ρ) (ok : ItOk K O H1 J ds) (hz : ds.length ≤ sizeLine)
    (ee : compL c e ρ ds T1 = some (ys, T2)) (q : ∀ vs H', SameX ts H1 H' → HC K O ts H' T2 → Reps K O H' vs ys → Dn vs H') :
    ∃ W : Nat → Nat → List V → Hp → Prop, (∃ m, W 0 m [] H1) ∧ cLoop σ J (liftT K c) (lift K e) W Dn := by
  refine ⟨fun i m vs H' => m = ds.length - i ∧ i ≤ ds.length ∧ vs.length ≤ i ∧ ∃ T dn rs, SameX ts H1 H' ∧ HC K O ts H' T ∧ Reps K O H' vs dn ∧ compL c e ρ (ds.drop i) T = some (rs, T2) ∧ ys = dn ++ rs, ⟨_, rfl, Nat.zero_le _, Nat.le_refl _, T1, [], ys, .refl _ _, hc, .nil, ee, rfl⟩, ?_⟩
  rintro i m vs H' ⟨rfl, hi, hv, T, dn, rs, s1, hc1, rv, ec, ey⟩
  obtain ⟨k1, k2, k3⟩ := ok O H' (hc.le s1)
  by_cases hlt : i < ds.length
  · refine .inr ⟨k1 i hlt, by omega, fun vs' H2 => i + 1 ≤ ds.length ∧ vs'.length ≤ i + 1 ∧ ∃ T dn rs, SameX ts H1 H2 ∧ HC K O ts H2 T ∧ Reps K O H2 vs' dn ∧ compL c e ρ (ds.drop (i + 1)) T = some (rs, T2) ∧ ys = dn ++ rs, fun vs' H2 n => ⟨ds.length - (i + 1), by omega, rfl, n⟩, fun v H2 y => ?_⟩
    obtain ⟨e2, d, hd, rd⟩ := k3 i v H2 y hlt
    subst e2
    have hdr : ds.drop i = d :: ds.drop (i + 1) := by
      rw [List.drop_eq_getElem_cons hlt]
      have := (List.getElem?_eq_some_iff.mp hd).2
      rw [this]
    rw [hdr] at ec
    obtain ⟨b, T3, e3, ec⟩ := bnd_of ec
    refine ⟨O, ts, some (.d d) :: ρ, T, b, T3, hc1, (re.mono hc s1).cons rd, e3, fun H3 s3 hc3 => ?_⟩
    cases b with
    | false =>
      rw [if_neg Bool.false_ne_true] at ec
      exact iteF ⟨hlt, by omega, T3, dn, rs, s1.trans s3, hc3, rv.mono (hc1.le s3), ec, ey⟩
    | true =>
      rw [if_pos rfl] at ec
      obtain ⟨w, T4, e4, ec⟩ := bnd_of ec
      refine iteT ⟨O, ts, some (.d d) :: ρ, T3, w, T4, hc3, ((re.mono hc s1).cons rd).mono hc1 s3, e4, fun u H4 s4 hc4 r4 => ?_⟩
      split at ec
      · rename_i y
        obtain ⟨zs, T5, e5, ec⟩ := bnd_of ec
        cases ec
        refine ⟨hlt, by simp; omega, T4, dn ++ [y], zs, s1.trans (s3.trans s4), hc4, (rv.mono (hc1.le (s3.trans s4))).append (.cons r4 .nil), e5, by rw [ey]; simp⟩
      · cases ec
  · have e : i = ds.length := by omega
    subst e
    rw [List.drop_eq_nil_of_le (Nat.le_refl _)] at ec
    cases ec
    rw [List.append_nil] at ey
    subst ey
    exact .inl ⟨k2, by omega, q vs H' s1 hc1 rv⟩
structure DTs (X : Cx) (es : List Expr) (f : FT) : Prop where
  pe : PTs X es (liftT X.K f)
theorem dts_nil {X : Cx} : DTs X [] fTrue := ⟨fun pins s σ H Q E I h => by
  refine pts_nil pins s σ H Q E I ?_
  obtain ⟨O, ts, ρ, T, w, T', hc, re, e, q⟩ := h
  cases e
  exact q H (.refl _ _) hc⟩
theorem de_comp {X : Cx} {x : Str} {scope osc : Scope} {N N' : List Str} {elt iter : Expr} {ifs : List Expr} {px pos : Pos} {it : FI} {c : FT} {f : FE} (S : CS osc N x scope N') (hi : DI X (.Name x px) iter it)
    (he : ∀ C s0 H0 ex, DE (compCx X x scope C s0 H0 ex N') elt f) (ht : ∀ C s0 H0 ex, DTs (compCx X x scope C s0 H0 ex N') ifs c) (hc : X.calm = true := by rfl) (hs : X.env.scope = osc := by rfl) (hN : X.N = N := by rfl)
    (hf : ∀ v, foldedSetIterable iter X.env v = pure v := by intro _; rfl) : DE X (.ListComp elt [⟨.Name x px, iter, ifs, 0⟩] scope pos) (fComp it c f) := by
  refine ⟨?_⟩
  refine pe_imp (pe_compD (wi := liftI X.K it) (tt := liftT X.K c) (te := lift X.K f) S hi.pe (fun C s0 H0 ex => (he C s0 H0 ex).pe) (fun C s0 H0 ex => (ht C s0 H0 ex).pe) hc hs hN hf) fun σ H Q => ?_
  rintro ⟨O, ts, ρ, T, w, T', hc, re, e, q⟩
  obtain ⟨ds, T1, e1, e⟩ := bnd_of e
  obtain ⟨ys, T2, e2, e⟩ := bnd_of e
  cases e
  refine ⟨O, ts, ρ, T, ds, T1, hc, re, e1, fun J H1 s1 hc1 ok hz => ?_⟩
  exact comp_ok hc1 (re.mono hc s1) ok hz e2 fun vs H' s2 hc2 r2 p hp => q _ _ (s1.trans (s2.trans (.new hp _))) (hc2.new hp _) (hc2.newL hp r2)
end D
namespace D
open PySem PySem.Spec PyProof.Rows L2
inductive Fl where
  | nx | rt (x : PyData) | ro (x : PyData) | bk | ct
noncomputable abbrev FS := Rho → Tp → Option ((Fl × Rho) × Tp)
structure RS (K : PySem.W.Frag) (O₀ : Addr → Prop) (H₀ : Hp) (F : List ((Addr → Prop) × Hp)) (ts : List Addr) (O : Addr → Prop) (H : Hp) (σ : L2.St) (ρ : Rho) (T : Tp) : Prop where
  hc : HC K O ts H T
  re : RelE K O ts H σ ρ
  sub : ∀ b, O₀ b → O b
  ots : ∀ b ∈ ts, O₀ b
  same : SameX ts H₀ H
  fresh : ∀ (i : Nat) (xs : PyData) (a : Addr), ρ[i]? = some (some (.loc xs)) → σ[i]? = some (some (.ref a)) → H₀ a = none ∧ ¬ O₀ a
  dist : ∀ (i j : Nat) (xs ys : PyData) (v : V), ρ[i]? = some (some (.loc xs)) → ρ[j]? = some (some (.loc ys)) → σ[i]? = some (some v) → σ[j]? = some (some v) → i = j
  frs : ∀ f ∈ F, Le f.1 f.2 O H
  len : σ.length = ρ.length
noncomputable def OwnV (K : PySem.W.Frag) (O A : Addr → Prop) (H : Hp) (v : V) : PyData → Prop
  | .tuple [x, y] => ∃ p a b, v = .ref p ∧ a ≠ b ∧ (∀ c, A c ↔ c = a ∨ c = b) ∧ ¬ O p ∧ H p = some (.tup [.ref a, .ref b]) ∧ OwnAt K O H a x ∧ OwnAt K O H b y
  | x => ∃ a, v = .ref a ∧ (∀ c, A c ↔ c = a) ∧ OwnAt K O H a x
theorem OwnV.mono {K : PySem.W.Frag} {O O' A : Addr → Prop} {H : Hp} {v : V} {x : PyData} (le : Le O H O' H) (h : OwnV K O A H v x) : OwnV K O' A H v x := by
  unfold OwnV at h ⊢
  split at h
  · obtain ⟨p, a, b, e1, e2, e3, np, hp, oa, ob⟩ := h
    exact ⟨p, a, b, e1, e2, e3, (le p _ np hp).1, hp, oa.mono (fun _ h => h) le, ob.mono (fun _ h => h) le⟩
  · obtain ⟨a, e, hA, oa⟩ := h
    exact ⟨a, e, hA, oa.mono (fun _ h => h) le⟩
noncomputable def EndsD (K : PySem.W.Frag) (O₀ : Addr → Prop) (H₀ : Hp) (F : List ((Addr → Prop) × Hp)) (ts : List Addr) (D : Ends) (ρ' : Rho) (T' : Tp) : Fl → Prop
  | .nx => ∀ O' σ' H', RS K O₀ H₀ F ts O' H' σ' ρ' T' → D.nx σ' H'
  | .bk => ∀ O' σ' H', RS K O₀ H₀ F ts O' H' σ' ρ' T' → D.bk σ' H'
  | .ct => ∀ O' σ' H', RS K O₀ H₀ F ts O' H' σ' ρ' T' → D.ct σ' H'
  | .rt x => ∀ v H', SameX ts H₀ H' → HC K O₀ ts H' T' → Rep K O₀ H' v x → D.rt v H'
  | .ro x => ∀ (A : Addr → Prop) v H', SameX ts H₀ H' → (∀ b, A b → H₀ b = none ∧ ¬ O₀ b) → HC K (fun b => O₀ b ∨ A b) ts H' T' → OwnV K (fun b => O₀ b ∨ A b) A H' v x → D.rt v H'
inductive LiftSP (K : PySem.W.Frag) (f : FS) (D : Ends) (σ : L2.St) (H : Hp) : Prop where
  | mk (O₀ : Addr → Prop) (H₀ : Hp) (F : List ((Addr → Prop) × Hp)) (ts : List Addr) (O : Addr → Prop) (ρ : Rho) (T : Tp) (fl : Fl) (ρ' : Rho) (T' : Tp) (rs : RS K O₀ H₀ F ts O H σ ρ T) (e : f ρ T = some ((fl, ρ'), T')) (q : EndsD K O₀ H₀ F ts D ρ' T' fl) : LiftSP K f D σ H
noncomputable def liftS (K : PySem.W.Frag) (f : FS) : TS := fun D σ H => LiftSP K f D σ H
structure DS (X : Cx) (s : Stmt) (f : FS) : Prop where
  pe : PS X s (liftS X.K f)
structure DSs (X : Cx) (s : List Stmt) (f : FS) : Prop where
  pe : PSs X s (liftS X.K f)
theorem ps_imp {X : Cx} {e : Stmt} {t t' : TS} (h : PS X e t) (i : ∀ D σ H, t' D σ H → t D σ H) : PS X e t' := fun pins s σ H D I q => h pins s σ H D I (i D σ H q)
theorem pss_imp {X : Cx} {e : List Stmt} {t t' : TS} (h : PSs X e t) (i : ∀ D σ H, t' D σ H → t D σ H) : PSs X e t' := fun pins s σ H D I q => h pins s σ H D I (i D σ H q)
section
variable {K : PySem.W.Frag} {O₀ : Addr → Prop} {H₀ : Hp} {F : List ((Addr → Prop) × Hp)} {ts : List Addr} {O : Addr → Prop} {H H1 : Hp} {σ : L2.St} {ρ : Rho} {T T1 : Tp}
theorem RS.step (r : RS K O₀ H₀ F ts O H σ ρ T) (s : SameX ts H H1) (c : HC K O ts H1 T1) : RS K O₀ H₀ F ts O H1 σ ρ T1 where
  hc := c
  re := r.re.mono r.hc s
  sub := r.sub
  ots := r.ots
  same := r.same.trans s
  fresh := r.fresh
  dist := r.dist
  frs := fun f hf => (r.frs f hf).trans (r.hc.le s)
  len := r.len
theorem set_loc {i j : Nat} {w : W} {xs : PyData} (hw : ∀ ys, w ≠ .loc ys) (e : (ρ.set i (some w))[j]? = some (some (.loc xs))) : j ≠ i ∧ ρ[j]? = some (some (.loc xs)) := by
  by_cases z : i = j
  · subst z
    rw [List.getElem?_set_self'] at e
    cases h : ρ[i]? with
    | none => rw [h] at e; cases e
    | some u =>
      rw [h] at e
      have e' : some (some w) = some (some (W.loc xs)) := e
      cases e'
      exact absurd rfl (hw xs)
  · rw [List.getElem?_set_ne z] at e
    exact ⟨fun q => z q.symm, e⟩
theorem RS.set {i : Nat} {v : V} {w : W} (r : RS K O₀ H₀ F ts O H σ ρ T) (rw' : RepW K O ts H v w) (hw : ∀ ys, w ≠ .loc ys) : RS K O₀ H₀ F ts O H (σ.set i (some v)) (ρ.set i (some w)) T where
  hc := r.hc
  re := fun j u e => by
    by_cases z : i = j
    · subst z
      have hl : i < ρ.length := by
        have := (List.getElem?_eq_some_iff.mp e).1
        simpa using this
      rw [List.getElem?_set_self hl] at e
      cases e
      exact ⟨v, by rw [List.getElem?_set_self (by rw [r.len]; exact hl)], rw'⟩
    · rw [List.getElem?_set_ne z] at e
      obtain ⟨x, h1, h2⟩ := r.re j u e
      exact ⟨x, by rw [List.getElem?_set_ne z]; exact h1, h2⟩
  sub := r.sub
  ots := r.ots
  same := r.same
  fresh := fun j xs a e1 e2 => by
    obtain ⟨n, e⟩ := set_loc hw e1
    rw [List.getElem?_set_ne (Ne.symm n)] at e2
    exact r.fresh j xs a e e2
  dist := fun j k xs ys u e1 e2 e3 e4 => by
    obtain ⟨n1, e1⟩ := set_loc hw e1
    obtain ⟨n2, e2⟩ := set_loc hw e2
    rw [List.getElem?_set_ne (Ne.symm n1)] at e3
    rw [List.getElem?_set_ne (Ne.symm n2)] at e4
    exact r.dist j k xs ys u e1 e2 e3 e4
  frs := r.frs
  len := by simp [r.len]
theorem RS.ownO {i : Nat} {p : Addr} {o : HO} {xs : PyData} (r : RS K O₀ H₀ F ts O H σ ρ T) (hp : H p = none) (hm : Mut (some o)) (rv : Le O H (fun b => O b ∨ b = p) (upd H p o) → OwnAt K (fun b => O b ∨ b = p) (upd H p o) p xs) : RS K O₀ H₀ F ts (fun b => O b ∨ b = p) (upd H p o) (σ.set i (some (.ref p))) (ρ.set i (some (.loc xs))) T := by
  have le : Le O H (fun b => O b ∨ b = p) (upd H p o) := fun a o n e => by
    have z : a ≠ p := ne_of_none e hp
    exact ⟨fun q => q.elim n z, by rw [upd_ne z]; exact e⟩
  have h0 : ∀ {G : Hp}, SameX ts G H → p ∉ ts → G p = none := fun {G} s nt => by
    cases e : G p with
    | none => rfl
    | some o => rw [s p o nt e] at hp; cases hp
  have nO := r.hc.fresh hp
  have nt : p ∉ ts := fun z => nO (r.hc.own p z)
  have old : ∀ {j : Nat} {v : V} {w : W}, σ[j]? = some (some v) → RepW K O ts H v w → RepW K (fun b => O b ∨ b = p) ts (upd H p o) v w := fun {j v w} e q => by
    cases w with
    | d x => exact Rep.mono le q
    | tp k => exact q
    | loc ys =>
      obtain ⟨a, e1, h1, h2, h3⟩ := q
      exact ⟨a, e1, .inl h1, h2, h3.mono (fun o' q => by rw [upd_ne (ne_of_none q hp)]; exact q) le⟩
  have notp : ∀ {j : Nat} {ys : PyData}, ρ[j]? = some (some (.loc ys)) → σ[j]? = some (some (.ref p)) → False := fun {j ys} e1 e2 => by
    obtain ⟨v, h1, a, ea, h2, h3, h4⟩ := r.re j _ e1
    rw [e2] at h1
    cases h1
    cases ea
    obtain ⟨o', h5⟩ := h4.some
    rw [hp] at h5
    cases h5
  refine ⟨⟨fun b hb => .inl (r.hc.own b hb), fun b hb => ?_, r.hc.nd, r.hc.len, fun j a ys e1 e2 => ?_⟩, fun j w e => ?_, fun b hb => .inl (r.sub b hb), r.ots, r.same.trans (.new hp _), fun j ys a e1 e2 => ?_, fun j k ys zs v e1 e2 e3 e4 => ?_, fun f hf => (r.frs f hf).trans le, by simp [r.len]⟩
  · by_cases z : b = p
    · subst z; rw [upd_same]; exact hm
    · rw [upd_ne z]
      exact r.hc.trk b (hb.resolve_right z)
  · exact (r.hc.tape j a ys e1 e2).mono (fun o' h1 => by rw [upd_ne (ne_of_none h1 hp)]; exact h1) le
  · by_cases z : i = j
    · subst z
      have hl : i < ρ.length := by
        have := (List.getElem?_eq_some_iff.mp e).1
        simpa using this
      rw [List.getElem?_set_self hl] at e
      cases e
      exact ⟨.ref p, by rw [List.getElem?_set_self (by rw [r.len]; exact hl)], p, rfl, .inr rfl, nt, rv le⟩
    · rw [List.getElem?_set_ne z] at e
      obtain ⟨x, h1, h2⟩ := r.re j w e
      exact ⟨x, by rw [List.getElem?_set_ne z]; exact h1, old h1 h2⟩
  · by_cases z : i = j
    · subst z
      have hl : i < ρ.length := by
        have := (List.getElem?_eq_some_iff.mp e1).1
        simpa using this
      rw [List.getElem?_set_self (by rw [r.len]; exact hl)] at e2
      cases e2
      exact ⟨h0 r.same nt, fun q => nO (r.sub _ q)⟩
    · rw [List.getElem?_set_ne z] at e1 e2
      exact r.fresh j ys a e1 e2
  · by_cases z : i = j
    · by_cases z' : i = k
      · rw [← z, ← z']
      · exfalso
        subst z
        have hl : i < ρ.length := by
          have := (List.getElem?_eq_some_iff.mp e1).1
          simpa using this
        rw [List.getElem?_set_self (by rw [r.len]; exact hl)] at e3
        cases e3
        rw [List.getElem?_set_ne z'] at e2 e4
        exact notp e2 e4
    · by_cases z' : i = k
      · exfalso
        subst z'
        have hl : i < ρ.length := by
          have := (List.getElem?_eq_some_iff.mp e2).1
          simpa using this
        rw [List.getElem?_set_self (by rw [r.len]; exact hl)] at e4
        cases e4
        rw [List.getElem?_set_ne z] at e1 e3
        exact notp e1 e3
      · rw [List.getElem?_set_ne z] at e1 e3
        rw [List.getElem?_set_ne z'] at e2 e4
        exact r.dist j k ys zs v e1 e2 e3 e4
theorem RS.own {i : Nat} {p : Addr} {vs : List V} {xs : List PyData} (r : RS K O₀ H₀ F ts O H σ ρ T) (hp : H p = none) (rv : Reps K O H vs xs) : RS K O₀ H₀ F ts (fun b => O b ∨ b = p) (upd H p (.lst vs)) (σ.set i (some (.ref p))) (ρ.set i (some (.loc (.list xs)))) T :=
  r.ownO hp (.inl ⟨_, rfl⟩) fun le => ⟨vs, upd_same, rv.mono le⟩
theorem RS.putO {i : Nat} {a : Addr} {o : HO} {xs ys : PyData} (r : RS K O₀ H₀ F ts O H σ ρ T) (e1 : ρ[i]? = some (some (.loc xs))) (e2 : σ[i]? = some (some (.ref a))) (hm : Mut (some o)) (rv : Le O H O (upd H a o) → OwnAt K O (upd H a o) a ys) : RS K O₀ H₀ F ts O (upd H a o) σ (ρ.set i (some (.loc ys))) T := by
  obtain ⟨v, z1, a', ea, oa, nt, ha⟩ := r.re i _ e1
  rw [e2] at z1
  cases z1
  cases ea
  have hl : i < ρ.length := (List.getElem?_eq_some_iff.mp e1).1
  obtain ⟨f1, f2⟩ := r.fresh i xs a e1 e2
  have le : Le O H O (upd H a o) := fun b o n e => ⟨n, by rw [upd_ne (show b ≠ a from fun z => n (by rw [z]; exact oa))]; exact e⟩
  have back : ∀ {j : Nat} {zs : PyData}, (ρ.set i (some (W.loc ys)))[j]? = some (some (.loc zs)) → ∃ ws, ρ[j]? = some (some (.loc ws)) := fun {j zs} e => by
    by_cases z : i = j
    · subst z; exact ⟨xs, e1⟩
    · rw [List.getElem?_set_ne z] at e; exact ⟨zs, e⟩
  refine ⟨⟨r.hc.own, fun b hb => ?_, r.hc.nd, r.hc.len, fun j b zs q1 q2 => ?_⟩, fun j w e => ?_, r.sub, r.ots, fun b o n e => ?_, fun j zs b q1 q2 => ?_, fun j k zs zs' v q1 q2 q3 q4 => ?_, fun f hf => (r.frs f hf).trans le, by simp [r.len]⟩
  · by_cases z : b = a
    · subst z; rw [upd_same]; exact hm
    · rw [upd_ne z]; exact r.hc.trk b hb
  · exact (r.hc.tape j b zs q1 q2).mono (fun o' h1 => by rw [upd_ne (show b ≠ a from fun z => nt (by rw [← z]; exact List.mem_of_getElem? q1))]; exact h1) le
  · by_cases z : i = j
    · subst z
      rw [List.getElem?_set_self hl] at e
      cases e
      exact ⟨.ref a, e2, a, rfl, oa, nt, rv le⟩
    · rw [List.getElem?_set_ne z] at e
      obtain ⟨x, h1, h2⟩ := r.re j w e
      refine ⟨x, h1, ?_⟩
      cases w with
      | d x => exact Rep.mono le h2
      | tp k => exact h2
      | loc zs =>
        obtain ⟨b, eb, k1, k2, k3⟩ := h2
        have n : b ≠ a := fun q => z (r.dist i j xs zs (.ref a) e1 e e2 (by rw [h1, eb, q]))
        exact ⟨b, eb, k1, k2, k3.mono (fun o' q => by rw [upd_ne n]; exact q) le⟩
  · have := r.same b o n e
    rw [upd_ne (show b ≠ a from fun z => by rw [z, f1] at e; cases e)]
    exact this
  · obtain ⟨ws, q⟩ := back q1
    exact r.fresh j ws b q q2
  · obtain ⟨ws, q⟩ := back q1
    obtain ⟨ws', q'⟩ := back q2
    exact r.dist j k ws ws' v q q' q3 q4
theorem RS.put {i : Nat} {a : Addr} {vs us : List V} {xs ys : List PyData} (r : RS K O₀ H₀ F ts O H σ ρ T) (e1 : ρ[i]? = some (some (.loc (.list xs)))) (e2 : σ[i]? = some (some (.ref a))) (rv : Reps K O H vs ys) : RS K O₀ H₀ F ts O (upd H a (.lst vs)) σ (ρ.set i (some (.loc (.list ys)))) T :=
  r.putO e1 e2 (.inl ⟨_, rfl⟩) fun le => ⟨vs, upd_same, rv.mono le⟩
theorem RS.tapeO {n : Nat} {a : Addr} {o : HO} {ys : List PyData} (r : RS K O₀ H₀ F ts O H σ ρ T) (e : ts[n]? = some a) (hm : Mut (some o)) (rv : Le O H O (upd H a o) → RowAt K O (upd H a o) a ys) : RS K O₀ H₀ F ts O (upd H a o) σ ρ (T.set n ys) := by
  have am : a ∈ ts := List.mem_of_getElem? e
  have le : Le O H O (upd H a o) := fun b o' k q => ⟨k, by rw [upd_ne (show b ≠ a from fun z => k (by rw [z]; exact r.hc.own a am))]; exact q⟩
  have sx : SameX ts H (upd H a o) := fun b o' k q => by rw [upd_ne (show b ≠ a from fun z => k (by rw [z]; exact am))]; exact q
  refine ⟨⟨r.hc.own, fun b hb => ?_, r.hc.nd, by simp [r.hc.len], fun j b zs q1 q2 => ?_⟩, r.re.mono r.hc sx, r.sub, r.ots, r.same.trans sx, r.fresh, r.dist, fun f hf => (r.frs f hf).trans le, r.len⟩
  · by_cases z : b = a
    · subst z; rw [upd_same]; exact hm
    · rw [upd_ne z]; exact r.hc.trk b hb
  · by_cases z : n = j
    · subst z
      rw [e] at q1
      cases q1
      have hl : n < T.length := by
        have := (List.getElem?_eq_some_iff.mp e).1
        rw [← r.hc.len]; exact this
      rw [List.getElem?_set_self hl] at q2
      cases q2
      exact rv le
    · rw [List.getElem?_set_ne z] at q2
      refine (r.hc.tape j b zs q1 q2).mono (fun o' h1 => ?_) le
      have nb : b ≠ a := fun q => by
        rw [q] at q1
        exact z ((List.getElem?_inj (List.getElem?_eq_some_iff.mp e).1 r.hc.nd).mp (e.trans q1.symm))
      rw [upd_ne nb]
      exact h1
theorem RS.tape {n : Nat} {a : Addr} {vs : List V} {ys : List PyData} (r : RS K O₀ H₀ F ts O H σ ρ T) (e : ts[n]? = some a) (rv : Reps K O H vs ys) : RS K O₀ H₀ F ts O (upd H a (.lst vs)) σ ρ (T.set n ys) :=
  r.tapeO e (.inl ⟨_, rfl⟩) fun le => .inl ⟨rv.notO, vs, upd_same, rv.mono le⟩
noncomputable def frzW : W → W
  | .loc x => .d x
  | w => w
noncomputable def frzR (ρ : Rho) : Rho := ρ.map (Option.map frzW)
theorem RS.frzH (r : RS K O₀ H₀ F ts O H σ ρ T) : HC K O₀ ts H T := by
  have le : Le O H O₀ H := fun a o n e => ⟨fun z => n (r.sub a z), e⟩
  exact ⟨r.ots, fun b hb => r.hc.trk b (r.sub b hb), r.hc.nd, r.hc.len, fun i a xs e1 e2 => (r.hc.tape i a xs e1 e2).mono (fun _ h => h) le⟩
noncomputable def NoLD (ρ : Rho) : Prop := ∀ (i : Nat) (ds : List (PyData × PyData)), ρ[i]? ≠ some (some (.loc (.dict ds)))
theorem RS.frz (r : RS K O₀ H₀ F ts O H σ ρ T) (nd : NoLD ρ) : HC K O₀ ts H T ∧ RelE K O₀ ts H σ (frzR ρ) := by
  have le : Le O H O₀ H := fun a o n e => ⟨fun z => n (r.sub a z), e⟩
  refine ⟨r.frzH, fun i w e => ?_⟩
  unfold frzR at e
  rw [List.getElem?_map] at e
  cases hu : ρ[i]? with
  | none => rw [hu] at e; cases e
  | some u =>
    cases u with
    | none => rw [hu] at e; cases e
    | some u =>
      rw [hu] at e
      cases e
      obtain ⟨v, h1, h2⟩ := r.re i u hu
      refine ⟨v, h1, ?_⟩
      cases u with
      | d x => exact Rep.mono le h2
      | tp k => exact h2
      | loc xs =>
        obtain ⟨a, rfl, k1, k2, k3⟩ := h2
        cases xs with
        | list xs => obtain ⟨vs, k3, k4⟩ := k3; exact .lst (.inl ⟨(r.fresh i _ a hu h1).2, .inl k3⟩) (k4.mono le)
        | dict xs => exact absurd hu (nd i xs)
        | _ => cases k3
theorem RS.frzD {i : Nat} {ds : List (PyData × PyData)} (r : RS K O₀ H₀ F ts O H σ ρ T) (h1 : ρ[i]? = some (some (.loc (.dict ds)))) : ∃ a kvs, H a = some (.dK kvs) ∧ ∀ o, RS K O₀ H₀ F ts (fun b => O b ∧ b ≠ a) (upd H a (.frz o (.dK kvs))) σ (ρ.set i (some (.d (.dict ds)))) T := by
  obtain ⟨v, k1, a, rfl, k2, k3, kvs, k4, k5⟩ := r.re i _ h1
  refine ⟨a, kvs, k4, fun o => ?_⟩
  have hl : i < ρ.length := (List.getElem?_eq_some_iff.mp h1).1
  have U : ∀ {b : Addr}, b ≠ a → upd H a (.frz o (.dK kvs)) b = H b := fun n => upd_ne n
  have le : Le O H (fun b => O b ∧ b ≠ a) (upd H a (.frz o (.dK kvs))) := fun b u n e => ⟨fun z => n z.1, by rw [U (show b ≠ a from fun z => n (by rw [z]; exact k2))]; exact e⟩
  have fr := r.fresh i _ a h1 k1
  have hw : ∀ ys, W.d (.dict ds) ≠ .loc ys := fun _ z => nomatch z
  refine ⟨⟨fun b hb => ⟨r.hc.own b hb, fun z => k3 (z ▸ hb)⟩, fun b hb => by rw [U hb.2]; exact r.hc.trk b hb.1, r.hc.nd, r.hc.len, fun j b ys e1 e2 => ?_⟩, fun j w e => ?_, fun b hb => ⟨r.sub b hb, fun z => fr.2 (z ▸ hb)⟩, r.ots, fun b u n e => ?_, fun j ys b e1 e2 => ?_, fun j k ys zs v e1 e2 e3 e4 => ?_, fun f hf => (r.frs f hf).trans le, by simp [r.len]⟩
  · exact (r.hc.tape j b ys e1 e2).mono (fun _ h => by rw [U (show b ≠ a from fun z => k3 (by rw [← z]; exact List.mem_of_getElem? e1))]; exact h) le
  · by_cases z : i = j
    · subst z
      rw [List.getElem?_set_self hl] at e
      cases e
      exact ⟨.ref a, k1, .dct (fun z => z.2 rfl) upd_same (k5.mono le)⟩
    · rw [List.getElem?_set_ne z] at e
      obtain ⟨x, q1, q2⟩ := r.re j w e
      refine ⟨x, q1, ?_⟩
      cases w with
      | d y => exact Rep.mono le q2
      | tp k => exact q2
      | loc ys =>
        obtain ⟨b, eb, m1, m2, m3⟩ := q2
        have nb : b ≠ a := fun q => z (r.dist i j _ ys (.ref a) h1 e k1 (by rw [q1, eb, q]))
        exact ⟨b, eb, ⟨m1, nb⟩, m2, m3.mono (fun _ q => by rw [U nb]; exact q) le⟩
  · rw [U (show b ≠ a from fun z => by rw [z, fr.1] at e; cases e)]
    exact r.same b u n e
  · obtain ⟨n, e⟩ := set_loc hw e1
    exact r.fresh j ys b e e2
  · obtain ⟨n1, e1⟩ := set_loc hw e1
    obtain ⟨n2, e2⟩ := set_loc hw e2
    exact r.dist j k ys zs v e1 e2 e3 e4
theorem frzR_set {i : Nat} {x : PyData} (h : ρ[i]? = some (some (.loc x))) : frzR (ρ.set i (some (.d x))) = frzR ρ := by
  apply List.ext_getElem?
  intro j
  unfold frzR
  rw [List.getElem?_map, List.getElem?_map]
  by_cases z : i = j
  · subst z
    rw [List.getElem?_set_self (List.getElem?_eq_some_iff.mp h).1, h]
    rfl
  · rw [List.getElem?_set_ne z]
theorem RS.frzN (R : Rho) : ∀ (k : Nat) {O : Addr → Prop} {H : Hp} {ρ : Rho}, RS K O₀ H₀ F ts O H σ ρ T → (∀ j ds, k ≤ j → ρ[j]? ≠ some (some (.loc (.dict ds)))) → frzR ρ = R →
    Gh (fun H' => ∃ O' ρ', RS K O₀ H₀ F ts O' H' σ ρ' T ∧ NoLD ρ' ∧ frzR ρ' = R) H
  | 0, O, H, ρ, r, n, e => .done ⟨O, ρ, r, fun j ds => n j ds (Nat.zero_le _), e⟩
  | k + 1, O, H, ρ, r, n, e => by
    by_cases h : ∃ ds, ρ[k]? = some (some (.loc (.dict ds)))
    · obtain ⟨ds, h⟩ := h
      obtain ⟨a, kvs, e1, f⟩ := r.frzD h
      refine .frz e1 fun o => RS.frzN R k (f o) (fun j es hj => ?_) (by rw [frzR_set h]; exact e)
      by_cases z : k = j
      · subst z
        rw [List.getElem?_set_self (List.getElem?_eq_some_iff.mp h).1]
        intro q
        cases q
      · rw [List.getElem?_set_ne z]
        exact n j es (by omega)
    · refine RS.frzN R k r (fun j ds hj => ?_) e
      by_cases z : k = j
      · subst z
        exact fun q => h ⟨ds, q⟩
      · exact n j ds (by omega)
theorem RS.frzG (r : RS K O₀ H₀ F ts O H σ ρ T) : Gh (fun H' => SameX ts H₀ H' ∧ HC K O₀ ts H' T ∧ RelE K O₀ ts H' σ (frzR ρ)) H :=
  (RS.frzN (frzR ρ) ρ.length r (fun j ds hj => by rw [List.getElem?_eq_none hj]; exact fun z => nomatch z) rfl).imp fun H' ⟨O', ρ', r', n, e⟩ => ⟨r'.same, by rw [← e]; exact r'.frz n⟩
end
noncomputable def fNext : FS := fun ρ T => some ((.nx, ρ), T)
noncomputable def fSeq (f g : FS) : FS := fun ρ T => bnd (f ρ T) fun p T1 => match p with
  | (.nx, ρ1) => g ρ1 T1
  | (fl, ρ1) => some ((fl, ρ1), T1)
noncomputable def fSet (i : Nat) (f : FE) : FS := fun ρ T => bnd (f ρ T) fun w T1 => match w with
  | .d x => some ((.nx, ρ.set i (some (.d x))), T1)
  | .tp k => some ((.nx, ρ.set i (some (.tp k))), T1)
  | .loc _ => none
noncomputable def fSetL (i : Nat) (g : FA) : FS := fun ρ T => bnd (g ρ T) fun ws T1 => match datas ws with
  | some xs => if xs.length ≤ 1000 then some ((.nx, ρ.set i (some (.loc (.list xs)))), T1) else none
  | none => none
noncomputable def fApp (i : Nat) (f : FE) : FS := fun ρ T => bnd (f ρ T) fun w T1 => match w with
  | .d x => (match ρ[i]? with
    | some (some (.loc (.list xs))) => if xs.length < sizeLine then some ((.nx, ρ.set i (some (.loc (.list (xs ++ [x]))))), T1) else none
    | _ => none)
  | _ => none
noncomputable def fIf (c : FT) (f g : FS) : FS := fun ρ T => bnd (c ρ T) fun b T1 => if b = true then f ρ T1 else g ρ T1
noncomputable def fRet (f : FE) : FS := fun ρ T => bnd (f (frzR ρ) T) fun w T1 => match w with
  | .d x => some ((.rt x, ρ), T1)
  | _ => none
noncomputable def fDrop (f : FE) : FS := fun ρ T => bnd (f ρ T) fun _ T1 => some ((.nx, ρ), T1)
noncomputable def forL (i : Nat) (body : FS) : List PyData → FS
  | [] => fNext
  | d :: r => fun ρ T => bnd (body (ρ.set i (some (.d d))) T) fun p T1 => match p with
    | (.nx, ρ1) => forL i body r ρ1 T1
    | (.ct, ρ1) => forL i body r ρ1 T1
    | (.bk, ρ1) => some ((.nx, ρ1), T1)
    | (.rt x, ρ1) => some ((.rt x, ρ1), T1)
    | (.ro x, ρ1) => some ((.ro x, ρ1), T1)
noncomputable def fFor (i : Nat) (it : FI) (body : FS) : FS := fun ρ T => bnd (it ρ T) fun ds T1 => forL i body ds ρ T1
noncomputable def whileF (c : FT) (body : FS) : Nat → FS
  | 0 => fun _ _ => none
  | n + 1 => fun ρ T => bnd (c ρ T) fun b T1 => if b = true then bnd (body ρ T1) fun p T2 => match p with
      | (.nx, ρ1) => whileF c body n ρ1 T2
      | (.ct, ρ1) => whileF c body n ρ1 T2
      | (.bk, ρ1) => some ((.nx, ρ1), T2)
      | (.rt x, ρ1) => some ((.rt x, ρ1), T2)
      | (.ro x, ρ1) => some ((.ro x, ρ1), T2)
    else some ((.nx, ρ), T1)
section
variable {X : Cx} {pos : Pos} {st : Stmt} {rest : List Stmt} {f g : FS} {e : Expr} {fe : FE} {c : FT}
theorem dss_nil : DSs X [] fNext := by
  refine ⟨?_⟩
  refine pss_imp pss_nil fun D σ H => ?_
  rintro ⟨O₀, H₀, F, ts, O, ρ, T, fl, ρ', T', rs, e, q⟩
  cases e
  exact q O σ H rs
theorem dss_cons (h1 : DS X st f) (h2 : DSs X rest g) : DSs X (st :: rest) (fSeq f g) := by
  refine ⟨?_⟩
  refine pss_imp (pss_cons h1.pe h2.pe) fun D σ H => ?_
  rintro ⟨O₀, H₀, F, ts, O, ρ, T, fl, ρ', T', rs, e, q⟩
  obtain ⟨⟨fl1, ρ1⟩, T1, e1, e⟩ := bnd_of e
  refine ⟨O₀, H₀, F, ts, O, ρ, T, fl1, ρ1, T1, rs, e1, ?_⟩
  cases fl1 with
  | nx => exact fun O' σ' H' rs' => ⟨O₀, H₀, F, ts, O', ρ1, T1, fl, ρ', T', rs', e, q⟩
  | rt x => cases e; exact q
  | ro x => cases e; exact q
  | bk => cases e; exact q
  | ct => cases e; exact q
theorem dss_one (h1 : DS X st f) : DSs X [st] f := ⟨pss_one h1.pe⟩
theorem ds_set {i : Nat} {x : Str} {pos' : Pos} (hN : X.N.Nodup) (he : DE X e fe) (hi : X.N[i]? = some x := by rfl) (hx : Loc X.env.scope x := by first | exact Or.inl rfl | exact Or.inr rfl) (hs : swapsWith e (some (.Name x pos')) pos.line X.env = pure false := by rfl)
    (hf : X.fn x = true ∨ X.env.scope.names.lookup x = some .local := by first | exact .inl rfl | exact .inr rfl | assumption) : DS X (.Assign [.Name x pos'] e pos) (fSet i fe) := by
  refine ⟨?_⟩
  refine ps_imp (ps_set hN hi hx he.pe hs hf) fun D σ H => ?_
  rintro ⟨O₀, H₀, F, ts, O, ρ, T, fl, ρ', T', rs, e, q⟩
  obtain ⟨w, T1, e1, e⟩ := bnd_of e
  refine ⟨O, ts, ρ, T, w, T1, rs.hc, rs.re, e1, fun v H1 s1 hc1 r1 => ?_⟩
  cases w with
  | d x => cases e; exact q O _ _ ((rs.step s1 hc1).set r1 fun _ z => nomatch z)
  | tp k => cases e; exact q O _ _ ((rs.step s1 hc1).set r1 fun _ z => nomatch z)
  | loc xs => cases e
theorem ds_setC {i : Nat} {x y : Str} {scope osc : Scope} {N N' : List Str} {elt iter : Expr} {ifs : List Expr} {px py spos : Pos} {it : FI} {c : FT} {f : FE} (S : CS osc N x scope N') (hN : X.N.Nodup) (hi : DI X (.Name x px) iter it)
    (he : ∀ C s0 H0 ex, DE (compCx X x scope C s0 H0 ex N') elt f) (ht : ∀ C s0 H0 ex, DTs (compCx X x scope C s0 H0 ex N') ifs c) (hi' : X.N[i]? = some y := by rfl) (hy : Loc X.env.scope y := by first | exact Or.inl rfl | exact Or.inr rfl)
    (hf' : X.fn y = true ∨ X.env.scope.names.lookup y = some .local := by first | exact .inl rfl | exact .inr rfl | assumption) (hc : X.calm = true := by rfl) (hs : X.env.scope = osc := by rfl) (hN' : X.N = N := by rfl)
    (hsw : swapsWith (.ListComp elt [⟨.Name x px, iter, ifs, 0⟩] scope pos) (some (.Name y py)) spos.line X.env = pure true := by rfl) (hf : ∀ v, foldedSetIterable iter X.env v = pure v := by intro _; rfl) :
    DS X (.Assign [.Name y py] (.ListComp elt [⟨.Name x px, iter, ifs, 0⟩] scope pos) spos) (fSet i (fComp it c f)) := by
  refine ⟨?_⟩
  subst hs hN'
  refine ps_imp (ps_setC (wi := liftI X.K it) (tt := liftT X.K c) (te := lift X.K f) hc S hN hi' hy hf' hi.pe (fun C s0 H0 ex => (he C s0 H0 ex).pe) (fun C s0 H0 ex => (ht C s0 H0 ex).pe) hsw hf) fun D σ H => ?_
  rintro ⟨O₀, H₀, F, ts, O, ρ, T, fl, ρ', T', rs, e, q⟩
  obtain ⟨w, T1, e1, e⟩ := bnd_of e
  obtain ⟨ds, T2, e2, e1⟩ := bnd_of e1
  obtain ⟨ys, T3, e3, e1⟩ := bnd_of e1
  cases e1
  cases e
  refine ⟨O, ts, ρ, T, ds, T2, rs.hc, rs.re, e2, fun J H1 s1 hc1 ok hz => ?_⟩
  exact comp_ok hc1 (rs.re.mono rs.hc s1) ok hz e3 fun vs H' s2 hc2 r2 p hp => q O _ _ ((rs.step (s1.trans (s2.trans (.new hp _))) (hc2.new hp _)).set (hc2.newL hp r2) fun _ z => nomatch z)
theorem ds_setL {i : Nat} {x : Str} {pos' : Pos} {es : List Expr} {lpos : Pos} {g : FA} (hN : X.N.Nodup) (he : DA X es g) (hi : X.N[i]? = some x := by rfl) (hx : Loc X.env.scope x := by first | exact Or.inl rfl | exact Or.inr rfl)
    (hs : swapsWith (.List es lpos) (some (.Name x pos')) pos.line X.env = pure false := by rfl) (hf : X.fn x = true ∨ X.env.scope.names.lookup x = some .local := by first | exact .inl rfl | exact .inr rfl | assumption) : DS X (.Assign [.Name x pos'] (.List es lpos) pos) (fSetL i g) := by
  refine ⟨?_⟩
  refine ps_imp (ps_set hN hi hx (pe_lst he.pe) hs hf) fun D σ H => ?_
  rintro ⟨O₀, H₀, F, ts, O, ρ, T, fl, ρ', T', rs, e, q⟩
  obtain ⟨ws, T1, e1, e⟩ := bnd_of e
  refine ⟨O, ts, ρ, T, ws, T1, rs.hc, rs.re, e1, fun vs H1 s1 hc1 r1 => ?_⟩
  split at e
  · rename_i xs h1
    split at e
    · rename_i h2
      cases e
      have rv := datas_of r1 h1
      exact ⟨le_line (by rw [rv.length]; exact h2), fun p hp => q _ _ _ ((rs.step s1 hc1).own hp rv)⟩
    · cases e
  · cases e
theorem ds_if {ce : Expr} {a b : List Stmt} (hc : DT X ce c) (ha : DSs X a f) (hb : DSs X b g) : DS X (.If ce a b pos) (fIf c f g) := by
  refine ⟨?_⟩
  refine ps_imp (ps_if hc.pe ha.pe hb.pe) fun D σ H => ?_
  rintro ⟨O₀, H₀, F, ts, O, ρ, T, fl, ρ', T', rs, e, q⟩
  obtain ⟨b1, T1, e1, e⟩ := bnd_of e
  refine ⟨O, ts, ρ, T, b1, T1, rs.hc, rs.re, e1, fun H1 s1 hc1 => ?_⟩
  cases b1 with
  | true => exact iteT ⟨O₀, H₀, F, ts, O, ρ, T1, fl, ρ', T', rs.step s1 hc1, by simpa using e, q⟩
  | false => exact iteF ⟨O₀, H₀, F, ts, O, ρ, T1, fl, ρ', T', rs.step s1 hc1, by simpa using e, q⟩
theorem ds_ret (he : DE X e fe) : DS X (.Return (some e) pos) (fRet fe) := by
  refine ⟨?_⟩
  refine ps_imp (ps_gh (ps_ret he.pe)) fun D σ H => ?_
  rintro ⟨O₀, H₀, F, ts, O, ρ, T, fl, ρ', T', rs, e, q⟩
  obtain ⟨w, T1, e1, e⟩ := bnd_of e
  refine rs.frzG.imp fun H0 ⟨same, c0, re0⟩ => ?_
  refine ⟨O₀, ts, frzR ρ, T, w, T1, c0, re0, e1, fun v H1 s1 hc1 r1 => ?_⟩
  cases w with
  | d x => cases e; exact q v H1 (same.trans s1) hc1 r1
  | tp k => cases e
  | loc xs => cases e
theorem ds_app {i : Nat} {x : Str} {p apos : Pos} (he : DE X e fe) (hN : X.N[i]? = some x := by rfl) (hv : Vis X.env.scope x := by first | exact Or.inl rfl | exact Or.inr (Or.inl rfl) | exact Or.inr (Or.inr rfl)) (hd : (x == ("__debug__" : Str)) = false := by decide)
    (hcd : (x == ("__classdict__" : Str)) = false := by decide) {cpos : Pos}
    (hbase : attributeBase (.Name x p) "append" X.env (eval (.Name x p) X.env) = eval (.Name x p) X.env := by rfl)
    (hfew : ((backTo cpos (starEach [e] X.env)).all (fun x => !x.1) && (backToKw cpos (keywordEach [] X.env)).all (fun x => x.1.isSome)
      && decide (([e] : List Expr).length + ([] : List Keyword).length + (if ([] : List Keyword).isEmpty then 0 else 1) < 30)) = true := by exact few1 rfl)
    (hline : (apos.endLine == cpos.line) = true := by rfl) (hse : starEach [e] X.env = (false, eval e X.env) :: starEach [] X.env := by exact star_cons rfl) (hplain : (backTo cpos (starEach [] X.env)).any (·.1) = false := by exact star_any rfl)
    (hs : swapsWith (.Call (.Attribute (.Name x p) "append" apos) [e] [] cpos) none pos.line X.env = pure false := by rfl) :
    DS X (.Expr (.Call (.Attribute (.Name x p) "append" apos) [e] [] cpos) pos) (fApp i fe) := by
  refine ⟨?_⟩
  refine ps_imp (ps_expr (pe_bm PySem.F.plainAttrs_list PySem.F.slot_list_append PySem.F.type_list_append mt_append (pv i hN hv hd hcd) (pa_cons he.pe pa_nil hse) hbase hfew hline hse hplain) hs) fun D σ H => ?_
  rintro ⟨O₀, H₀, F, ts, O, ρ, T, fl, ρ', T', rs, e, q⟩
  obtain ⟨w, T1, e1, e⟩ := bnd_of e
  split at e
  · rename_i x0
    split at e
    · rename_i xs h1
      split at e
      · rename_i h2
        cases e
        obtain ⟨v, k1, a, rfl, k2, k3, vs, k4, k5⟩ := rs.re i _ h1
        refine ⟨_, k1, .inl ⟨rfl, vs, SqL.of k4⟩, O, ts, ρ, T, _, _, rs.hc, rs.re, e1, fun u H1 s1 hc1 r1 => ?_⟩
        have rs1 := rs.step s1 hc1
        exact ⟨a, vs, u, rfl, rfl, s1 _ _ k3 k4, by rw [k5.length]; exact h2, q O _ _ (rs1.put (us := []) h1 k1 ((k5.mono (rs.hc.le s1)).append (.cons r1 .nil)))⟩
      · cases e
    · cases e
  · cases e
end
end D
namespace D
open PySem PySem.Spec PyProof.Rows L2
section
variable {K : PySem.W.Frag} {O₀ : Addr → Prop} {H₀ : Hp} {F : List ((Addr → Prop) × Hp)} {ts : List Addr} {O : Addr → Prop} {H H1 : Hp} {σ : L2.St} {ρ : Rho} {T T1 : Tp}
theorem RS.less {f : (Addr → Prop) × Hp} (r : RS K O₀ H₀ (f :: F) ts O H σ ρ T) : RS K O₀ H₀ F ts O H σ ρ T := ⟨r.hc, r.re, r.sub, r.ots, r.same, r.fresh, r.dist, fun f hf => r.frs f (List.mem_cons_of_mem _ hf), r.len⟩
theorem RS.more (r : RS K O₀ H₀ F ts O H σ ρ T) : RS K O₀ H₀ ((O, H) :: F) ts O H σ ρ T := ⟨r.hc, r.re, r.sub, r.ots, r.same, r.fresh, r.dist, fun f hf => by
  rcases List.mem_cons.mp hf with z | z
  · subst z; exact fun a o n e => ⟨n, e⟩
  · exact r.frs f z, r.len⟩
end
section
variable {X : Cx} {pos : Pos} {st : Stmt} {rest : List Stmt} {f g : FS} {e : Expr} {fe : FE} {c : FT}
theorem ds_for {i : Nat} {x : Str} {iter : Expr} {body : List Stmt} {tpos : Pos} {it : FI} (hN : X.N.Nodup) (hi : DI X (.Name x tpos) iter it) (hb : DSs X body f) (hix : X.N[i]? = some x := by rfl) (hx : Loc X.env.scope x := by first | exact Or.inl rfl | exact Or.inr rfl)
    (hf : X.fn x = true ∨ X.env.scope.names.lookup x = some .local := by first | exact .inl rfl | exact .inr rfl | assumption) (hp : PassesOwn (model X.prog X.w) X.A X.env X.xe := by exact PassesOwn.never) (hc : X.calm = true := by rfl)
    (hs : ∀ x, foldedSetIterable iter X.env x = pure x := by intro _; rfl) : DS X (.For (.Name x tpos) iter body [] pos) (fFor i it f) := by
  refine ⟨?_⟩
  refine ps_imp (ps_for hp hc hi.pe (pg_name hN hix hx hf) hb.pe hs) fun D σ H => ?_
  rintro ⟨O₀, H₀, F, ts, O, ρ, T, fl, ρ', T', rs, e, q⟩
  obtain ⟨ds, T1, e1, e⟩ := bnd_of e
  refine ⟨O, ts, ρ, T, ds, T1, rs.hc, rs.re, e1, fun J H1 s1 hc1 ok hz => ?_⟩
  refine ⟨fun k m σ H => m = ds.length - k ∧ k ≤ ds.length ∧ ∃ O' ρk Tk, RS X.K O₀ H₀ ((O, H1) :: F) ts O' H σ ρk Tk ∧ forL i f (ds.drop k) ρk Tk = some ((fl, ρ'), T'), ⟨_, rfl, Nat.zero_le _, O, ρ, T1, (rs.step s1 hc1).more, e⟩, ?_⟩
  rintro k m σ2 H2 ⟨rfl, hk, O', ρk, Tk, rs2, ek⟩
  obtain ⟨k1, k2, k3⟩ := ok O' H2 (rs2.frs _ List.mem_cons_self)
  by_cases hlt : k < ds.length
  · refine .inr ⟨k1 k hlt, fun σ3 H3 => ∃ O' ρk Tk, RS X.K O₀ H₀ ((O, H1) :: F) ts O' H3 σ3 ρk Tk ∧ forL i f (ds.drop (k + 1)) ρk Tk = some ((fl, ρ'), T'), fun σ3 H3 n => ⟨ds.length - (k + 1), by omega, rfl, hlt, n⟩, fun v H3 y => ?_⟩
    obtain ⟨e2, d, hd, rd⟩ := k3 k v H3 y hlt
    subst e2
    have hdr : ds.drop k = d :: ds.drop (k + 1) := by
      rw [List.drop_eq_getElem_cons hlt]
      have := (List.getElem?_eq_some_iff.mp hd).2
      rw [this]
    rw [hdr] at ek
    obtain ⟨⟨fl1, ρ1⟩, T3, e3, ek⟩ := bnd_of ek
    refine ⟨O₀, H₀, (O, H1) :: F, ts, O', _, Tk, fl1, ρ1, T3, rs2.set (i := i) (w := .d d) rd (fun _ z => nomatch z), e3, ?_⟩
    cases fl1 with
    | nx => exact fun O3 σ3 H3 rs3 => ⟨O3, ρ1, T3, rs3, ek⟩
    | ct => exact fun O3 σ3 H3 rs3 => ⟨O3, ρ1, T3, rs3, ek⟩
    | bk =>
      cases ek
      exact fun O3 σ3 H3 rs3 => q O3 σ3 H3 rs3.less
    | rt x =>
      cases ek
      exact q
    | ro x =>
      cases ek
      exact q
  · have e : k = ds.length := by omega
    subst e
    rw [List.drop_eq_nil_of_le (Nat.le_refl _)] at ek
    cases ek
    exact .inl ⟨k2, q O' σ2 H2 rs2.less⟩
theorem ds_while {ce : Expr} {body : List Stmt} (n : Nat) (hc : DT X ce c) (hb : DSs X body f) (hp : PassesOwn (model X.prog X.w) X.A X.env X.xe := by exact PassesOwn.never) : DS X (.While ce body [] pos) (whileF c f n) := by
  refine ⟨?_⟩
  refine ps_imp (ps_while hp hc.pe hb.pe) fun D σ H => ?_
  rintro ⟨O₀, H₀, F, ts, O, ρ, T, fl, ρ', T', rs, e, q⟩
  refine ⟨fun m σ H => ∃ O' ρm Tm, RS X.K O₀ H₀ F ts O' H σ ρm Tm ∧ whileF c f m ρm Tm = some ((fl, ρ'), T'), ⟨n, O, ρ, T, rs, e⟩, ?_⟩
  rintro m σ2 H2 ⟨O', ρm, Tm, rs2, em⟩
  cases m with
  | zero => cases em
  | succ m =>
    obtain ⟨b, T3, e3, em⟩ := bnd_of em
    refine ⟨O', ts, ρm, Tm, b, T3, rs2.hc, rs2.re, e3, fun H3 s3 hc3 => ?_⟩
    have rs3 := rs2.step s3 hc3
    cases b with
    | false =>
      rw [if_neg Bool.false_ne_true] at em
      cases em
      exact iteF (q O' σ2 H3 rs3)
    | true =>
      rw [if_pos rfl] at em
      obtain ⟨⟨fl1, ρ1⟩, T4, e4, em⟩ := bnd_of em
      refine iteT ⟨fun σ3 H3 => ∃ O' ρm Tm, RS X.K O₀ H₀ F ts O' H3 σ3 ρm Tm ∧ whileF c f m ρm Tm = some ((fl, ρ'), T'), fun σ3 H3 n => ⟨m, Nat.lt_succ_self m, n⟩, O₀, H₀, F, ts, O', ρm, T3, fl1, ρ1, T4, rs3, e4, ?_⟩
      cases fl1 with
      | nx => exact fun O3 σ3 H3 rs3 => ⟨O3, ρ1, T4, rs3, em⟩
      | ct => exact fun O3 σ3 H3 rs3 => ⟨O3, ρ1, T4, rs3, em⟩
      | bk =>
        cases em
        exact fun O3 σ3 H3 rs3 => q O3 σ3 H3 rs3
      | rt x =>
        cases em
        exact q
      | ro x =>
        cases em
        exact q
end
noncomputable abbrev FnM := List W → Tp → Option (PyData × Tp)
noncomputable def noLoc : List W → Bool
  | [] => true
  | .loc _ :: _ => false
  | _ :: r => noLoc r
noncomputable def fnEnd (o : Option ((Fl × Rho) × Tp)) : Option (PyData × Tp) := bnd o fun p T => match p with
  | (.rt x, _) => some (x, T)
  | (.nx, _) => some (.none, T)
  | _ => none
noncomputable def mkFn (N : Nat) (f : FS) : FnM := fun ws T => if noLoc ws = true then fnEnd (f (ws.map some ++ List.replicate (N - ws.length) none) T) else none
inductive SpMP (K : PySem.W.Frag) (n : Nat) (m : FnM) (vs : List V) (H : Hp) (Q : VK) : Prop where
  | mk (O : Addr → Prop) (ts : List Addr) (T : Tp) (ws : List W) (x : PyData) (T' : Tp) (hc : HC K O ts H T) (r : RepWs K O ts H vs ws) (hl : ws.length = n) (e : m ws T = some (x, T')) (q : ∀ v H', SameX ts H H' → HC K O ts H' T' → Rep K O H' v x → Q v H') : SpMP K n m vs H Q
noncomputable def spM (K : PySem.W.Frag) (n : Nat) (m : FnM) : Sp := fun vs H Q _ => SpMP K n m vs H Q
theorem repws_get {K : PySem.W.Frag} {O : Addr → Prop} {ts : List Addr} {H : Hp} : ∀ {vs : List V} {ws : List W} {i : Nat} {w : W}, RepWs K O ts H vs ws → ws[i]? = some w → ∃ v, vs[i]? = some v ∧ RepW K O ts H v w
  | _, _, _, _, .nil, e => by simp at e
  | _, _, 0, _, .cons r _, e => by simp at e; subst e; exact ⟨_, rfl, r⟩
  | _, _, i + 1, w, .cons _ t, e => by
    obtain ⟨d, h1, h2⟩ := repws_get (i := i) (w := w) t (by simpa using e)
    exact ⟨d, by simpa using h1, h2⟩
theorem noLoc_mem : ∀ {ws : List W} {xs : PyData}, noLoc ws = true → W.loc xs ∉ ws
  | [], _, _, h => by cases h
  | .loc _ :: _, _, e, _ => by cases e
  | .d _ :: r, _, e, h => by
    rcases List.mem_cons.mp h with z | z
    · cases z
    · exact noLoc_mem (ws := r) e z
  | .tp _ :: r, _, e, h => by
    rcases List.mem_cons.mp h with z | z
    · cases z
    · exact noLoc_mem (ws := r) e z
theorem start_get {ws : List W} {n i : Nat} {w : W} (e : (ws.map some ++ List.replicate n none)[i]? = some (some w)) : ws[i]? = some w := by
  by_cases h : i < ws.length
  · rw [List.getElem?_append_left (by simpa using h), List.getElem?_map] at e
    cases q : ws[i]? with
    | none => rw [q] at e; cases e
    | some u => rw [q] at e; cases e; rfl
  · rw [List.getElem?_append_right (by simpa using h)] at e
    have := List.mem_of_getElem? e
    rw [List.mem_replicate] at this
    cases this.2
theorem dfn {P : Program} {w : World} {K : PySem.W.Frag} {mg : Str → Option Value} {base : Heap} {x qual : Str} {st : Stmt} {f : Addr} {fd : FuncData} {N ps : List Str} {k : Nat} {m : FS} (F : Fun K x qual st f fd) (S : FnScope N ps (defScope st))
    (hbody : ∀ (cdv : Value) (A : Around) (outer : List Env) (s : Shared) (H : Hp) (E : XK), Room k (A.deeper (envOfC qual (defScope st) s.heap.objs.size f cdv)) → DSs (cxOf CX0 P w K mg base N qual (defScope st) f cdv A outer s H E).nox (defBody st) m) :
    FnOk P w K mg base CX0 (k + 1) f fd ps (spM K ps.length (mkFn N.length m)) := by
  refine F.ok S (fun vs H Q E h => ?_) (fun cdv A outer s H vs Q E hr h => ⟨_, (hbody cdv A outer s H E hr).pe, ?_⟩)
  · obtain ⟨O, ts, T, ws, x, T', hc, rw', hl, _⟩ := h
    rw [← hl]
    exact Paired.length rw'
  obtain ⟨O, ts, T, ws, x, T', hc, rw', hl, e, q⟩ := h
  unfold mkFn at e
  split at e
  · rename_i hn
    obtain ⟨⟨fl, ρ'⟩, T1, e1, e⟩ := bnd_of e
    have hlen : vs.length = ws.length := Paired.length rw'
    have noL : ∀ {i : Nat} {xs : PyData}, (ws.map some ++ List.replicate (N.length - ws.length) none)[i]? = some (some (W.loc xs)) → False := fun {i xs} e => noLoc_mem hn (List.mem_of_getElem? (start_get e))
    refine ⟨O, H, [], ts, O, _, T, fl, ρ', T1, ⟨hc, fun i u e => ?_, fun _ h => h, hc.own, .refl _ _, fun i xs a e1 _ => (noL e1).elim, fun i j xs ys v e1 _ _ _ => (noL e1).elim, fun f hf => absurd hf (by simp), by simp [L2.start, hlen]⟩, e1, ?_⟩
    · obtain ⟨v, h1, h2⟩ := repws_get rw' (start_get e)
      refine ⟨v, ?_, h2⟩
      unfold L2.start
      have hi : i < vs.length := (List.getElem?_eq_some_iff.mp h1).1
      rw [List.getElem?_append_left (by simpa using hi), List.getElem?_map, h1]
      rfl
    · cases fl with
      | rt y => cases e; exact fun v H' s1 c1 r1 => q v H' s1 c1 r1
      | nx =>
        cases e
        exact fun O' σ' H' rs => q _ _ rs.same rs.frzH .non
      | bk => cases e
      | ct => cases e
      | ro y => cases e
  · cases e
noncomputable def fCall (m : FnM) (g : FA) : FE := fun ρ T => bnd (g ρ T) fun ws T1 => bnd (m ws T1) fun x T2 => some (.d x, T2)
noncomputable def LenA (g : FA) (n : Nat) : Prop := ∀ ρ T ws T', g ρ T = some (ws, T') → ws.length = n
theorem len_nil : LenA fNil 0 := fun ρ T ws T' e => by cases e; rfl
theorem len_cons {f : FE} {g : FA} {n : Nat} (h : LenA g n) : LenA (fCons f g) (n + 1) := fun ρ T ws T' e => by
  obtain ⟨w1, T1, e1, e⟩ := bnd_of e
  obtain ⟨ws, T2, e2, e⟩ := bnd_of e
  cases e
  rw [List.length_cons, h _ _ _ _ e2]
theorem de_call {X : Cx} {name : Str} {ps : List Str} {k : Nat} {m : FnM} {e : Expr} {es : List Expr} {g : FA} {p pos : Pos} (F : Fn X.prog X.w X.K X.mg X.base name ps k (spM X.K ps.length m)) (hr : Room k X.A) (hg : Gl X name) (ha : DA X (e :: es) g) (hl : LenA g ps.length) (hdb : (name == ("__debug__" : Str)) = false := by decide)
    (he : starEach (e :: es) X.env = (false, eval e X.env) :: starEach es X.env := by exact star_cons rfl) (hpl : (backTo pos (starEach es X.env)).any (·.1) = false := by exact star_any rfl) : DE X (.Call (.Name name p) (e :: es) [] pos) (fCall m g) := by
  refine ⟨?_⟩
  refine pe_imp (pe_fn F hr hg ha.pe hdb he hpl) fun σ H Q => ?_
  rintro ⟨O, ts, ρ, T, w, T', hc, re, e, q⟩
  obtain ⟨ws, T1, e1, e⟩ := bnd_of e
  obtain ⟨x, T2, e2, e⟩ := bnd_of e
  cases e
  refine ⟨O, ts, ρ, T, ws, T1, hc, re, e1, fun vs H1 s1 hc1 r1 => ?_⟩
  refine ⟨O, ts, T1, ws, x, _, hc1, by rw [List.append_nil]; exact r1, hl _ _ _ _ e1, e2, fun v H2 s2 hc2 r2 => q v H2 (s1.trans s2) hc2 r2⟩
end D
namespace D
open PySem PySem.Spec PyProof.Rows L2
noncomputable def iop (g : Int → Int → Option PyData) : PyData → PyData → Option PyData
  | .int i, .int j => g i j
  | _, _ => none
noncomputable def subD : PyData → PyData → Option PyData := iop fun i j => some (.int (i - j))
noncomputable def modD : PyData → PyData → Option PyData := iop fun i j => if 0 < j then some (.int (i % j)) else none
noncomputable def fdivD : PyData → PyData → Option PyData := iop fun i j => if 0 < j ∧ j < 1073741824 then some (.int (i / j)) else none
noncomputable def powD : PyData → PyData → Option PyData := iop fun i j => if 0 ≤ j ∧ j ≤ 1000000 ∧ i.natAbs < 2 ^ 64 then some (.int (i ^ j.toNat)) else none
noncomputable def ltD : PyData → PyData → Option PyData := iop fun i j => some (.bool (decide (i < j)))
noncomputable def leD : PyData → PyData → Option PyData := iop fun i j => some (.bool (decide (i ≤ j)))
noncomputable def gtD : PyData → PyData → Option PyData := iop fun i j => some (.bool (decide (j < i)))
noncomputable def geD : PyData → PyData → Option PyData := iop fun i j => some (.bool (decide (j ≤ i)))
theorem iop_of {g : Int → Int → Option PyData} {x y d : PyData} (e : iop g x y = some d) : ∃ i j, x = .int i ∧ y = .int j ∧ g i j = some d := by
  unfold iop at e
  split at e
  · exact ⟨_, _, rfl, rfl, e⟩
  · cases e
theorem snd_rI {K : PySem.W.Frag} {C : Int → Int → Prop} {g : Int → Int → V} {gd : Int → Int → Option PyData} (h : ∀ i j d, gd i j = some d → C i j ∧ ∀ O H, Rep K O H (g i j) d) : Snd2 K (rI C g) (iop gd) := fun O ts H T v1 v2 x y d Q hc h1 h2 e q => by
  obtain ⟨i, j, rfl, rfl, e⟩ := iop_of e
  obtain ⟨c, r⟩ := h i j d e
  exact ⟨i, j, h1.int, h2.int, c, q _ H (.refl _ _) hc (r O H)⟩
theorem snd_rI0 {K : PySem.W.Frag} {g : Int → Int → V} {gd : Int → Int → Option PyData} (h : ∀ i j d, gd i j = some d → ∀ O H, Rep K O H (g i j) d) : Snd2 K (rI0 g) (iop gd) := fun O ts H T v1 v2 x y d Q hc h1 h2 e q => by
  obtain ⟨i, j, rfl, rfl, e⟩ := iop_of e
  exact ⟨i, j, h1.int, h2.int, q _ H (.refl _ _) hc (h i j d e O H)⟩
section
variable {X : Cx}
theorem o_sub : OpD X (binaryOp .Sub) subD := ⟨_, op_sub, snd_rI0 fun i j d e O H => by cases e; exact .int _⟩
theorem o_mod : OpD X (binaryOp .Mod) modD := ⟨_, op_mod, snd_rI fun i j d e => by
  split at e
  · rename_i h; cases e; exact ⟨h, fun _ _ => .int _⟩
  · cases e⟩
theorem o_fdiv : OpD X (binaryOp .FloorDiv) fdivD := ⟨_, op_fdiv, snd_rI fun i j d e => by
  split at e
  · rename_i h; cases e; exact ⟨h, fun _ _ => .int _⟩
  · cases e⟩
theorem o_pow : OpD X (binaryOp .Pow) powD := ⟨_, op_pow, snd_rI fun i j d e => by
  split at e
  · rename_i h; cases e; exact ⟨h, fun _ _ => .int _⟩
  · cases e⟩
theorem o_lt : OpD X (compareOp .Lt) ltD := ⟨_, op_lt, snd_rI0 fun i j d e O H => by cases e; exact .bl _⟩
theorem o_le : OpD X (compareOp .LtE) leD := ⟨_, op_le, snd_rI0 fun i j d e O H => by cases e; exact .bl _⟩
theorem o_gt : OpD X (compareOp .Gt) gtD := ⟨_, op_gt, snd_rI0 fun i j d e O H => by cases e; exact .bl _⟩
theorem o_ge : OpD X (compareOp .GtE) geD := ⟨_, op_ge, snd_rI0 fun i j d e O H => by cases e; exact .bl _⟩
noncomputable def addD : PyData → PyData → Option PyData
  | .int i, .int j => some (.int (i + j))
  | .str x, .str y => if x.length + y.length ≤ sizeLine then some (.str (x ++ y)) else none
  | .tuple xs, .tuple ys => if xs.length + ys.length ≤ sizeLine then some (.tuple (xs ++ ys)) else none
  | .list xs, .list ys => if xs.length + ys.length ≤ sizeLine then some (.list (xs ++ ys)) else none
  | _, _ => none
noncomputable def rCatL (K : PySem.W.Frag) : R2 := fun x y H Q => ∃ l b xs zs, x = .ref l ∧ y = .ref b ∧ SqL K H l xs ∧ SqL K H b zs ∧ xs.length + zs.length ≤ sizeLine ∧ ∀ p, H p = none → Q (.ref p) (upd H p (.lst (xs ++ zs)))
theorem op_catL : OpR X (binaryOp .Add) (rCatL X.K) := by
  intro pins s σ H x y v u Q I rx ry h
  obtain ⟨l, b, xs, zs, rfl, rfl, hH, hB, hz, q⟩ := h
  cases rx
  cases ry
  obtain ⟨its, r, p1, _⟩ := I.list hH
  obtain ⟨its2, r2, p2, _⟩ := I.list hB
  have hl := r.length
  have hl2 := r2.length
  obtain ⟨⟨cls, dd, data, sl⟩, ho, hc, n, hd⟩ := id p1.isList
  obtain ⟨⟨cls2, dd2, data2, sl2⟩, ho2, hc2, n2, hd2⟩ := id p2.isList
  simp only at hc hd hc2 hd2
  subst hc hd hc2 hd2
  have ea : its.toArray ++ its2.toArray = (its ++ its2).toArray := by simp
  refine concat_meets ⟨_, ho, rfl⟩ ⟨_, ho2, rfl⟩ noFill_list_add seq_list_add PySem.F.slot_list_add PySem.F.entry_list_add (PySem.F.args_list_add_2 _ _) (list_addW l b its.toArray its2.toArray n n2 dd dd2 sl sl2 (by rw [List.size_toArray, List.size_toArray]; omega)) ⟨ho, ho2, ?_⟩
  rw [ea]
  exact ⟨.ref _, _, I.lnew (t' := s.toks) (r.append r2) (by rw [List.length_append]; omega), rfl, q _ I.fresh⟩
theorem o_add : OpD X (binaryOp .Add) addD := by
  refine ⟨_, op_add.or (op_add_str.or (op_catG.or op_catL)), fun O ts H T v1 v2 x y d Q hc h1 h2 e q => ?_⟩
  unfold addD at e
  split at e
  · cases e
    exact .inl ⟨_, _, h1.int, h2.int, q _ H (.refl _ _) hc (.int _)⟩
  · split at e
    · rename_i hz
      cases e
      exact .inr (.inl ⟨_, _, h1.str, h2.str, hz, q _ H (.refl _ _) hc (.str _)⟩)
    · cases e
  · split at e
    · rename_i xs ys hz
      cases e
      obtain ⟨a, vs, rfl, t1, r1⟩ := h1.tup
      obtain ⟨b, us, rfl, t2, r2⟩ := h2.tup
      refine .inr (.inr (.inl ⟨a, b, vs, us, rfl, rfl, t1.sq, t2.sq, by rw [r1.length, r2.length]; exact hz, fun z => ?_, fun _ z => ?_, fun _ _ p hp => ?_⟩))
      · subst z
        cases r1
        exact q _ H (.refl _ _) hc (.tup t2 r2)
      · subst z
        cases r2
        rw [List.append_nil] at q
        exact q _ H (.refl _ _) hc (.tup t1 r1)
      · exact q _ _ (.new hp _) (hc.new hp _) (hc.newT hp (r1.append r2))
    · cases e
  · split at e
    · rename_i xs ys hz
      cases e
      obtain ⟨a, vs, rfl, t1, r1⟩ := h1.lst
      obtain ⟨b, us, rfl, t2, r2⟩ := h2.lst
      exact .inr (.inr (.inr ⟨a, b, vs, us, rfl, rfl, t1, t2, by rw [r1.length, r2.length]; exact hz, fun p hp => q _ _ (.new hp _) (hc.new hp _) (hc.newL hp (r1.append r2))⟩))
    · cases e
  · cases e
theorem noFill_tuple_mul : fillsNumberSlot (.type "tuple") "mul" = pure false :=
  PySem.fillsNumberSlot_seq (id := "tuple.__mul__") (r := some (.builtin "tuple.__rmul__")) PySem.F.slot_tuple_mul.lookup (by decide +kernel) PySem.F.slot_tuple_rmul.lookup (by decide +kernel)
theorem repeat_tuple : seqRepeat? (.type "tuple") = pure (some (.builtin "tuple.__mul__")) := by
  unfold seqRepeat?
  rw [PySem.seqSlot_of (T := "tuple") (name := "__mul__") (id := "tuple.__mul__") PySem.F.slot_tuple_mul.lookup (by decide +kernel), PySem.seqSlot_of (T := "tuple") (name := "__rmul__") (id := "tuple.__rmul__") PySem.F.slot_tuple_rmul.lookup (by decide +kernel)]
  rfl
theorem int_rmul_tuple (a : Int) (t : Tok) (l : Addr) (items : Array Value) (n : Nat) (dd : Option Addr) (sl : Array (Option Value)) :
    Meets (Builtin.«int.__rmul__» ⟨[.int a t, .ref l], []⟩) (fun _ R s => s.heap.get? l = some { cls := .type "tuple", dict := dd, data := .seq items n, slots := sl } ∧ R (.ok (.ret Value.notImplemented)) s) :=
  .of_wp fun prog w A R s h => by obtain ⟨hp, g, d, tk, os⟩ := s; obtain ⟨hl, h⟩ := h; wp_walk; exact ⟨_, rfl, h⟩
theorem tuple_mulW (l : Addr) (items : Array Value) (n : Nat) (dd : Option Addr) (sl : Array (Option Value)) (k : Int) (t : Tok) (h1 : 2 ≤ k) (h2 : k ≤ 1000) (h3 : items.isEmpty = false) (h4 : items.size ≤ 1000) :
    Meets (Builtin.«tuple.__mul__» ⟨[.ref l, .int k t], []⟩) (fun _ R s => s.heap.get? l = some { cls := .type "tuple", dict := dd, data := .seq items n, slots := sl } ∧ R (.ok (.ret (Value.ref s.heap.objs.size))) { s with heap := s.heap.push { cls := Value.type "tuple", data := Data.seq (List.foldl (fun x1 x2 => x1 ++ x2) #[] (List.replicate k.toNat items)) }, toks := s.toks }) :=
  .of_wp fun prog w A R s h => by
    obtain ⟨hp, g, d, tk, os⟩ := s
    obtain ⟨hl, h⟩ := h
    have hc0 : ¬ (decide (k < -(2 ^ 63)) || decide (k ≥ 2 ^ 63)) = true := by simp; omega
    have hc1 : ¬ (items.isEmpty || k == 1) = true := by rw [h3]; simp; omega
    have hc2 : ¬ (decide (k ≤ 0) || items.isEmpty) = true := by rw [h3]; simp; omega
    have hm : items.size * k.toNat ≤ 1000 * 1000 := Nat.mul_le_mul h4 (by omega)
    have hm' : (items.size : Int) * k ≤ 1000000 := by
      have e : ((items.size * k.toNat : Nat) : Int) = (items.size : Int) * k := by rw [Int.natCast_mul, Int.toNat_of_nonneg (by omega)]
      omega
    have hc3 : ¬ (items.size : Int) * k > (2 ^ 63 - 1) / 8 := by
      have : (1000000 : Int) ≤ (2 ^ 63 - 1) / 8 := by decide
      omega
    have hc4 : ¬ Builtin.Tuple.tupleTooMany ((items.size : Int) * k) = true := by
      unfold Builtin.Tuple.tupleTooMany
      have : sizeLine = 16777216 := by decide
      simp
      omega
    have ht : IsTup hp l items := ⟨_, hl, rfl, n, rfl⟩
    wp_walk
    rw [if_neg hc0]
    dsimp only
    refine wpAny_bind (tupleItemsOf_ ht ?_)
    rw [if_neg hc1, if_neg hc2, if_neg hc3, if_neg hc4]
    have fit : sizeOk (.seq (List.foldl (fun x1 x2 => x1 ++ x2) #[] (List.replicate k.toNat items))) := by
      show (List.foldl (fun x1 x2 => x1 ++ x2) #[] (List.replicate k.toNat items)).size ≤ sizeLine
      have q := foldl_rep items.toList k.toNat []
      rw [List.nil_append] at q
      have q' : List.foldl (fun x1 x2 => x1 ++ x2) #[] (List.replicate k.toNat items) = (List.replicate k.toNat items.toList).flatten.toArray := by simpa using q
      rw [q', List.size_toArray, len_rep]
      have : sizeLine = 16777216 := by decide
      rw [Array.length_toList, Nat.mul_comm]
      omega
    first
    | exact wpAny_bind (m := Builtin.Tuple.tupleExact _) (wpAny_newObj_type (wpAny_pure ⟨_, rfl, h⟩) fit)
    | exact wpAny_bind (m := Builtin.Tuple.tupleExact _) (wpAny_newObj_type (wpAny_bind (wpAny_pure (wpAny_pure ⟨_, rfl, h⟩))) fit)
theorem op_repT : OpR X (binaryOp .Mult) (fun x y H Q => ∃ a k xs, x = .ref a ∧ y = .int k ∧ SqT X.K H a xs ∧ 2 ≤ k ∧ k ≤ 1000 ∧ xs ≠ [] ∧ xs.length ≤ 1000 ∧ ∀ p, H p = none → Q (.ref p) (upd H p (.tup (List.replicate k.toNat xs).flatten))) := by
  intro pins s σ H x y v u Q I rx ry h
  obtain ⟨a, k, xs, rfl, rfl, hq, h1, h2, h3, h4, q⟩ := h
  cases rx
  obtain ⟨t, rfl⟩ := ry
  obtain ⟨its, r, p1, _⟩ := I.tuple hq
  have hl := r.length
  have hv : its ≠ [] := fun z => h3 (r.nil_iff.mp z)
  obtain ⟨⟨cls, dd, data, sl⟩, ho, hc, n, hd⟩ := id p1
  simp only at hc hd
  subst hc hd
  have hnew : List.foldl (fun x1 x2 => x1 ++ x2) #[] (List.replicate k.toNat its.toArray) = (List.replicate k.toNat its).flatten.toArray := by
    have q := foldl_rep its k.toNat []
    rw [List.nil_append] at q
    exact q
  have he : its.toArray.isEmpty = false := by
    cases its with
    | nil => exact absurd rfl hv
    | cons _ _ => simp
  refine wpAny_binaryOp_repeat_ref (T := "tuple") (U := "int") (by decide) ⟨_, ho, rfl⟩ (fun s' => typeIs_int s' k t) noFill_tuple_mul F.fills_int_mul F.slot_int_rmul repeat_tuple F.slot_int_index.lookup
    (call_meets F.slot_int_rmul (typeIs_int s k t) F.entry_int_rmul (F.args_int_rmul_2 _ _) (int_rmul_tuple k t a its.toArray n dd sl)
      ⟨ho, rfl, ⟨_, ho, rfl⟩, call_meets PySem.F.slot_tuple_mul ⟨_, ho, rfl⟩ PySem.F.entry_tuple_mul (PySem.F.args_tuple_mul_2 _ _) (tuple_mulW a its.toArray n dd sl k t h1 h2 he (by rw [List.size_toArray]; omega)) ⟨ho, ?_⟩⟩)
  rw [hnew]
  refine ⟨.ref s.heap.objs.size, _, I.laid (t' := s.toks) (o := .tup (List.replicate k.toNat xs).flatten) (fun b ob q => Heap.get?_push_of_some _ q) (Nat.le_refl _) ?_, rfl, q _ (I.hok.fresh (Nat.le_refl _))⟩
  refine ⟨?_, _, r.rep k.toNat, IsTup.new _ _⟩
  rw [len_rep]
  have : k.toNat * xs.length ≤ 1000 * 1000 := Nat.mul_le_mul (by omega) h4
  have : sizeLine = 16777216 := by decide
  omega
noncomputable def mulD : PyData → PyData → Option PyData
  | .int i, .int j => if (-(2 ^ 64) < i ∧ i < 2 ^ 64) ∨ (-(2 ^ 64) < j ∧ j < 2 ^ 64) then some (.int (i * j)) else none
  | .str z, .int k => if 0 ≤ k ∧ k ≤ 2000 ∧ z.length ≤ 1000 then some (.str (Txt.mul z k)) else none
  | .tuple xs, .int k => if 2 ≤ k ∧ k ≤ 1000 ∧ xs.isEmpty = false ∧ xs.length ≤ 1000 then some (.tuple (List.replicate k.toNat xs).flatten) else none
  | _, _ => none
theorem o_mul : OpD X (binaryOp .Mult) mulD := by
  refine ⟨_, op_mul.or (op_mulS.or op_repT), fun O ts H T v1 v2 x y d Q hc h1 h2 e q => ?_⟩
  unfold mulD at e
  split at e
  · split at e
    · rename_i hz
      cases e
      exact .inl ⟨_, _, h1.int, h2.int, hz, q _ H (.refl _ _) hc (.int _)⟩
    · cases e
  · split at e
    · rename_i hz
      cases e
      exact .inr (.inl ⟨_, _, h1.str, h2.int, hz.1, hz.2.1, hz.2.2, q _ H (.refl _ _) hc (.str _)⟩)
    · cases e
  · split at e
    · rename_i xs k hz
      cases e
      obtain ⟨a, vs, rfl, t1, r1⟩ := h1.tup
      exact .inr (.inr ⟨a, _, vs, rfl, h2.int, t1.sq, hz.1, hz.2.1, fun z => by subst z; cases r1; exact absurd hz.2.2.1 (by simp), by rw [r1.length]; exact hz.2.2.2, fun p hp => q _ _ (.new hp _) (hc.new hp _) (hc.newT hp (r1.rep _))⟩)
    · cases e
  · cases e
noncomputable def eqS : PyData → PyData → Option Bool
  | .int i, .int j => some (decide (i = j))
  | .str x, .str y => some (decide (x = y))
  | .bool a, .bool b => some (decide (a = b))
  | .none, .none => some true
  | .none, .int _ => some false | .int _, .none => some false | .none, .bool _ => some false | .bool _, .none => some false | .none, .str _ => some false | .str _, .none => some false
  | .int _, .str _ => some false | .str _, .int _ => some false | .bool _, .str _ => some false | .str _, .bool _ => some false
  | _, _ => none
theorem eqS_of {K : PySem.W.Frag} {O : Addr → Prop} {H : Hp} {v1 v2 : V} {x y : PyData} {b : Bool} (h1 : Vw K O H v1 x) (h2 : Vw K O H v2 y) (e : eqS x y = some b) : scal v1 v2 = true ∧ decide (v1 = v2) = b := by
  unfold eqS at e
  split at e
  all_goals first | (cases e; done) | skip
  · cases h1.int; cases h2.int; cases e; exact ⟨rfl, by simp⟩
  · cases h1.str; cases h2.str; cases e; exact ⟨rfl, by simp⟩
  · cases h1.bl; cases h2.bl; cases e; exact ⟨rfl, by simp⟩
  · cases h1.non; cases h2.non; cases e; exact ⟨rfl, by simp⟩
  · cases h1.non; cases h2.int; cases e; exact ⟨rfl, by simp⟩
  · cases h1.int; cases h2.non; cases e; exact ⟨rfl, by simp⟩
  · cases h1.non; cases h2.bl; cases e; exact ⟨rfl, by simp⟩
  · cases h1.bl; cases h2.non; cases e; exact ⟨rfl, by simp⟩
  · cases h1.non; cases h2.str; cases e; exact ⟨rfl, by simp⟩
  · cases h1.str; cases h2.non; cases e; exact ⟨rfl, by simp⟩
  · cases h1.int; cases h2.str; cases e; exact ⟨rfl, by simp⟩
  · cases h1.str; cases h2.int; cases e; exact ⟨rfl, by simp⟩
  · cases h1.bl; cases h2.str; cases e; exact ⟨rfl, by simp⟩
  · cases h1.str; cases h2.bl; cases e; exact ⟨rfl, by simp⟩
noncomputable def eqD (x y : PyData) : Option PyData := (eqS x y).map .bool
noncomputable def neD (x y : PyData) : Option PyData := (eqS x y).map fun b => .bool (!b)
theorem o_eq : OpD X (compareOp .Eq) eqD := ⟨_, op_eq, fun O ts H T v1 v2 x y d Q hc h1 h2 e q => by
  unfold eqD at e
  obtain ⟨b, e1, rfl⟩ := Option.map_eq_some_iff.mp e
  obtain ⟨k1, k2⟩ := eqS_of h1 h2 e1
  exact ⟨k1, by rw [k2]; exact q _ H (.refl _ _) hc (.bl _)⟩⟩
theorem o_ne : OpD X (compareOp .NotEq) neD := ⟨_, op_ne, fun O ts H T v1 v2 x y d Q hc h1 h2 e q => by
  unfold neD at e
  obtain ⟨b, e1, rfl⟩ := Option.map_eq_some_iff.mp e
  obtain ⟨k1, k2⟩ := eqS_of h1 h2 e1
  exact ⟨k1, by rw [k2]; exact q _ H (.refl _ _) hc (.bl _)⟩⟩
noncomputable def isNone : PyData → Bool
  | .none => true
  | _ => false
theorem isNone_of {K : PySem.W.Frag} {O : Addr → Prop} {H : Hp} {v : V} {x : PyData} (h : Vw K O H v x) : decide (v = .non) = isNone x := by
  cases h with
  | rep h => cases h <;> rfl
  | raw _ _ => rfl
  | rawD _ _ => rfl
noncomputable def isD : PyData → PyData → Option PyData
  | x, .none => some (.bool (isNone x))
  | _, _ => none
theorem o_is : OpD X (compareOp .Is) isD := ⟨_, op_isN, fun O ts H T v1 v2 x y d Q hc h1 h2 e q => by
  unfold isD at e
  split at e
  · cases e
    exact ⟨h2.non, by rw [isNone_of h1]; exact q _ H (.refl _ _) hc (.bl _)⟩
  · cases e⟩
noncomputable def isNotD : PyData → PyData → Option PyData
  | x, .none => some (.bool (!isNone x))
  | .bool a, .bool b => some (.bool (a != b))
  | _, _ => none
theorem o_isnot : OpD X (compareOp .IsNot) isNotD := ⟨_, op_notN.or op_isnotB, fun O ts H T v1 v2 x y d Q hc h1 h2 e q => by
  unfold isNotD at e
  split at e
  · cases e
    exact .inl ⟨h2.non, by rw [isNone_of h1]; exact q _ H (.refl _ _) hc (.bl _)⟩
  · cases e
    exact .inr ⟨_, _, h1.bl, h2.bl, q _ H (.refl _ _) hc (.bl _)⟩
  · cases e⟩
noncomputable def flatD : PyData → Bool
  | .none => true | .bool _ => true | .int _ => true | .str _ => true
  | _ => false
noncomputable def eqF : PyData → PyData → Bool
  | .none, .none => true
  | .bool a, .bool b => a == b
  | .bool a, .int b => (if a then 1 else 0) == b
  | .int a, .bool b => a == (if b then 1 else 0)
  | .int a, .int b => a == b
  | .str a, .str b => a == b
  | _, _ => false
noncomputable def hasS (y x : Str) : Bool := !(Builtin.Str.occurrences y x 0 y.length 1).isEmpty
noncomputable def inS : PyData → PyData → Option Bool
  | .str x, .str y => some (hasS y x)
  | x, .list ys => if flatD x && ys.all flatD then some (ys.any fun y => eqF y x) else none
  | x, .tuple ys => if flatD x && ys.all flatD then some (ys.any fun y => eqF y x) else none
  | _, _ => none
theorem flat_of {K : PySem.W.Frag} {O : Addr → Prop} {H : Hp} {v : V} {x : PyData} (h : Rep K O H v x) (e : flatD x = true) : flatV v = true := by
  cases h <;> first | rfl | cases e
theorem eqF_of {K : PySem.W.Frag} {O : Addr → Prop} {H : Hp} {v u : V} {x y : PyData} (h : Rep K O H v x) (g : Rep K O H u y) (ex : flatD x = true) (ey : flatD y = true) : eqV v u = eqF x y := by
  cases h <;> cases g <;> first | rfl | cases ex | cases ey
theorem flats_of {K : PySem.W.Frag} {O : Addr → Prop} {H : Hp} : ∀ {vs : List V} {xs : List PyData}, Reps K O H vs xs → xs.all flatD = true → vs.all flatV = true
  | _, _, .nil, _ => rfl
  | _, _, .cons r t, e => by
    rw [List.all_cons, Bool.and_eq_true] at e
    rw [List.all_cons, flat_of r e.1, flats_of t e.2]
    rfl
theorem anys_of {K : PySem.W.Frag} {O : Addr → Prop} {H : Hp} {v : V} {x : PyData} (h : Rep K O H v x) (ex : flatD x = true) : ∀ {vs : List V} {xs : List PyData}, Reps K O H vs xs → xs.all flatD = true → (vs.any fun y => eqV y v) = xs.any fun y => eqF y x
  | _, _, .nil, _ => rfl
  | _, _, .cons r t, e => by
    rw [List.all_cons, Bool.and_eq_true] at e
    rw [List.any_cons, List.any_cons, eqF_of r h e.1 ex, anys_of h ex t e.2]
theorem Vw.flat {K : PySem.W.Frag} {O : Addr → Prop} {H : Hp} {v : V} {x : PyData} (h : Vw K O H v x) (e : flatD x = true) : Rep K O H v x := by
  cases h with
  | rep h => exact h
  | raw _ _ => cases e
  | rawD _ _ => cases e
noncomputable def inD (x y : PyData) : Option PyData := (inS x y).map .bool
noncomputable def notInD (x y : PyData) : Option PyData := (inS x y).map fun b => .bool (!b)
theorem snd_in {K : PySem.W.Frag} (neg : Bool) : Snd2 K (fun x y H Q => (∃ i j, x = .str i ∧ y = .str j ∧ Q (.bl (if neg then !(hasS j i) else hasS j i)) H) ∨ rIn K neg x y H Q) (fun x y => (inS x y).map fun b => .bool (if neg then !b else b)) := fun O ts H T v1 v2 x y d Q hc h1 h2 e q => by
  obtain ⟨b, e1, rfl⟩ := Option.map_eq_some_iff.mp e
  unfold inS at e1
  split at e1
  · cases e1
    exact .inl ⟨_, _, h1.str, h2.str, q _ H (.refl _ _) hc (.bl _)⟩
  · split at e1
    · rename_i hf
      cases e1
      rw [Bool.and_eq_true] at hf
      obtain ⟨a, vs, rfl, t, r⟩ := h2.lst
      have r1 := h1.flat hf.1
      refine .inr ⟨a, vs, rfl, .inl t, flat_of r1 hf.1, flats_of r hf.2, ?_⟩
      have z : inV v1 vs = _ := anys_of r1 hf.1 r hf.2
      rw [z]
      exact q _ H (.refl _ _) hc (.bl _)
    · cases e1
  · split at e1
    · rename_i hf
      cases e1
      rw [Bool.and_eq_true] at hf
      obtain ⟨a, vs, rfl, t, r⟩ := h2.tup
      have r1 := h1.flat hf.1
      refine .inr ⟨a, vs, rfl, .inr t.sq, flat_of r1 hf.1, flats_of r hf.2, ?_⟩
      have z : inV v1 vs = _ := anys_of r1 hf.1 r hf.2
      rw [z]
      exact q _ H (.refl _ _) hc (.bl _)
    · cases e1
  · cases e1
theorem o_in : OpD X (compareOp .In) inD := ⟨_, op_in_str.or op_in_seq, snd_in false⟩
theorem o_notin : OpD X (compareOp .NotIn) notInD := ⟨_, op_notin_str.or op_notIn_seq, snd_in true⟩
noncomputable def negD : PyData → Option PyData
  | .int i => some (.int (-i))
  | _ => none
theorem de_neg {a : Expr} {fa : FE} {pos : Pos} (ha : DE X a fa) : DE X (.UnaryOp .USub a pos) (fUn negD fa) := de_un un_neg (fun O ts H T v x d Q hc h e q => by
  unfold negD at e
  split at e
  · cases e
    exact ⟨_, h.int, q _ H (.refl _ _) hc (.int _)⟩
  · cases e) ha
noncomputable def ixD : PyData → PyData → Option PyData
  | .list xs, .int i => atI xs i
  | .tuple xs, .int i => atI xs i
  | .str z, .int i => if z.length ≤ sizeLine then (atI z.cps.toList i).map fun c => .str ⟨#[c]⟩ else none
  | _, _ => none
theorem reps_at {K : PySem.W.Frag} {O : Addr → Prop} {H : Hp} {vs : List V} {xs : List PyData} {i : Int} {d : PyData} (r : Reps K O H vs xs) (e : atI xs i = some d) : ∃ v, atI vs i = some v ∧ Rep K O H v d := by
  unfold atI at e ⊢
  rw [r.length]
  cases h : ixN xs.length i with
  | none => rw [h] at e; cases e
  | some j =>
    rw [h] at e
    exact r.getD e
theorem x_seq : IxD X ixD := ⟨_, ix_seq, fun O ts H T v1 v2 x y d Q hc h1 h2 e q => by
  unfold ixD at e
  split at e
  · obtain ⟨a, vs, rfl, t, r⟩ := h1.lst
    obtain ⟨v, k1, k2⟩ := reps_at r e
    exact .inl ⟨a, vs, _, v, rfl, h2.int, t, k1, q _ H (.refl _ _) hc k2⟩
  · obtain ⟨a, vs, rfl, t, r⟩ := h1.tup
    obtain ⟨v, k1, k2⟩ := reps_at r e
    exact .inr (.inl ⟨a, vs, _, v, rfl, h2.int, t.sq, k1, q _ H (.refl _ _) hc k2⟩)
  · split at e
    · rename_i hz
      obtain ⟨c, k1, rfl⟩ := Option.map_eq_some_iff.mp e
      exact .inr (.inr ⟨_, _, c, h1.str, h2.int, hz, k1, q _ H (.refl _ _) hc (.str _)⟩)
    · cases e
  · cases e⟩
end
end D
namespace D
open PySem PySem.Spec PyProof.Rows L2
theorem getItem_tuple_whole {prog : Program} {w : World} {A : Around} {E : Value → Shared → Prop} {s : Shared} {t sl : Addr} {items : Array Value} {vl vu : Value} {lo hi : Option Int} {Q : Value → Shared → Prop} (ht : IsTup s.heap t items) (hs : s.heap.IsSliceOf sl vl vu .none) (pl : IsPart vl lo) (pu : IsPart vu hi)
    (hw : HT.sIx items.size 0 lo = 0 ∧ HT.sIx items.size items.size hi = items.size) (h : Q (.ref t) s) : wpAny (model prog w) A (getItem (.ref t) (.ref sl)) Q E s := by
  obtain ⟨os, hos, hcs, hds⟩ := id hs
  have hTs : s.TypeIs (.ref sl) "slice" := ⟨os, hos, hcs⟩
  unfold getItem
  try with_reducible refine wpAny_holding ?_
  first | refine wpAny_bind (wpAny_pure ?_) | skip
  refine wpAny_bind (wpAny_sequenceKey ht.typeIs (by decide) ?_)
  refine wpAny_bind (wpAny_callSpecial?_slot (name := Str.ofString "__getitem__") ht.typeIs PyProof.Rows.slot_tuple_getitem
    (wpAny_call_entry PyProof.Rows.slot_tuple_getitem ht.typeIs entry_tuple_getitem ?_ (args_tuple_getitem _ _)))
  show wpAny _ _ (Builtin.Tuple.tupleItemsOf (.ref t) >>= _) _ _ s
  refine wpAny_bind (tupleItemsOf_ ht ?_)
  refine wpAny_bind (wpAny_typeOf hTs ?_)
  rw [if_pos (by decide)]
  refine wpAny_bind (HT.sliceApplied_gen hs pl pu ?_)
  have hyes : ((((HT.sIx items.size 0 lo : Nat) : Int) == 0 && (1 : Int) == 1 && (HT.sIx items.size items.size hi - HT.sIx items.size 0 lo) == items.size) = true) := by
    rw [hw.1, hw.2]
    simp
  show wpAny _ _ (if (((HT.sIx items.size 0 lo : Nat) : Int) == 0 && (1 : Int) == 1 && (HT.sIx items.size items.size hi - HT.sIx items.size 0 lo) == items.size) = true then _ else _) _ _ s
  rw [if_pos hyes]
  refine wpAny_bind (m := Builtin.Tuple.tupleIsExact (.ref t)) (wpAny_bind (wpAny_typeOf ht.typeIs (wpAny_pure ?_)))
  first
  | exact wpAny_bind (wpAny_rule (wpAny_bind (wpAny_pure ⟨_, rfl, wpAny_pure h⟩)))
  | (simp only [beq_self_eq_true, if_true]; exact wpAny_bind (wpAny_rule (wpAny_pure ⟨_, rfl, wpAny_pure h⟩)))
noncomputable def cutL {α : Type} (xs : List α) (lo hi : Option Int) : List α := (xs.drop (HT.sIx xs.length 0 lo)).take (HT.sIx xs.length xs.length hi - HT.sIx xs.length 0 lo)
theorem Reps.cut {K : PySem.W.Frag} {O : Addr → Prop} {H : Hp} {vs : List V} {ds : List PyData} (r : Reps K O H vs ds) (lo hi : Option Int) : Reps K O H (cutV vs lo hi) (cutL ds lo hi) := by
  unfold cutV cutL
  rw [r.length]
  exact (r.drop _).take _
theorem cut_whole {α : Type} {xs : List α} {lo hi : Option Int} (h : HT.sIx xs.length 0 lo = 0 ∧ HT.sIx xs.length xs.length hi = xs.length) : cutL xs lo hi = xs := by
  unfold cutL
  rw [h.1, h.2]
  simp
section
variable {X : Cx}
theorem sl_tupA : SlR X (fun x lo hi H Q => ∃ a xs, x = .ref a ∧ SqT X.K H a xs ∧ ((HT.sIx xs.length 0 lo = 0 ∧ HT.sIx xs.length xs.length hi = xs.length) → Q (.ref a) H) ∧
    (¬ (HT.sIx xs.length 0 lo = 0 ∧ HT.sIx xs.length xs.length hi = xs.length) → ∀ p, H p = none → Q (.ref p) (upd H p (.tup (cutV xs lo hi))))) := by
  intro pins s σ H x v vl vu lo hi sl Q I rx hs pl pu h
  obtain ⟨a, xs, rfl, hx, q1, q2⟩ := h
  by_cases hw : HT.sIx xs.length 0 lo = 0 ∧ HT.sIx xs.length xs.length hi = xs.length
  · cases rx
    obtain ⟨its, r, ht, hz⟩ := I.tuple hx
    have hlen : its.toArray.size = xs.length := by rw [List.size_toArray]; exact r.length.symm
    refine ⟨"tuple", _, PyProof.Rows.slot_tuple_getitem.lookup, ht.typeIs, ?_⟩
    exact getItem_tuple_whole ht hs pl pu (by rw [hlen]; exact hw) ⟨.ref a, H, I, rfl, q1 hw⟩
  · exact sl_tup pins s σ H _ v vl vu lo hi sl Q I rx hs pl pu ⟨a, xs, rfl, hx, hw, q2 hw⟩
noncomputable def sliceD (x : PyData) (lo hi : Option Int) : Option PyData := match x with
  | .list xs => some (.list (cutL xs lo hi))
  | .tuple xs => some (.tuple (cutL xs lo hi))
  | .str z => if z.length ≤ sizeLine then some (.str (Txt.slice z lo hi)) else none
  | _ => none
noncomputable abbrev FO := Rho → Tp → Option (Option Int × Tp)
noncomputable def fNoP : FO := fun _ T => some (none, T)
noncomputable def fP (f : FE) : FO := fun ρ T => bnd (f ρ T) fun w T1 => match w with
  | .d (.int i) => some (some i, T1)
  | _ => none
inductive LiftOP (K : PySem.W.Frag) (f : FO) (σ : L2.St) (H : Hp) (Q : Option Int → Hp → Prop) : Prop where
  | mk (O : Addr → Prop) (ts : List Addr) (ρ : Rho) (T : Tp) (o : Option Int) (T' : Tp) (hc : HC K O ts H T) (re : RelE K O ts H σ ρ) (e : f ρ T = some (o, T')) (q : ∀ H', SameX ts H H' → HC K O ts H' T' → Q o H') : LiftOP K f σ H Q
noncomputable def liftO (K : PySem.W.Frag) (f : FO) : TO := fun σ H Q => LiftOP K f σ H Q
structure DO (X : Cx) (e : Option Expr) (f : FO) : Prop where
  pe : PO X e (liftO X.K f)
theorem po_imp {e : Option Expr} {t t' : TO} (h : PO X e t) (i : ∀ σ H Q, t' σ H Q → t σ H Q) : PO X e t' := fun pins s σ H Q I q => h pins s σ H Q I (i σ H Q q)
theorem dp_none : DO X none fNoP := by
  refine ⟨?_⟩
  refine po_imp po_none fun σ H Q => ?_
  rintro ⟨O, ts, ρ, T, o, T', hc, re, e, q⟩
  cases e
  exact q H (.refl _ _) hc
theorem dp_some {e : Expr} {f : FE} (h : DE X e f) : DO X (some e) (fP f) := by
  refine ⟨?_⟩
  refine po_imp (po_some h.pe) fun σ H Q => ?_
  rintro ⟨O, ts, ρ, T, o, T', hc, re, e, q⟩
  obtain ⟨w1, T1, e1, e⟩ := bnd_of e
  refine ⟨O, ts, ρ, T, w1, T1, hc, re, e1, fun v1 H1 s1 hc1 r1 => ?_⟩
  split at e
  · cases e
    cases (show Rep X.K O H1 v1 _ from r1)
    exact ⟨_, rfl, q H1 s1 hc1⟩
  · cases e
noncomputable def fSl (f : FE) (l u : FO) : FE := fun ρ T => bnd (f ρ T) fun w T1 => bnd (l ρ T1) fun lo T2 => bnd (u ρ T2) fun hi T3 => op1 (fun x => sliceD x lo hi) T3 w
theorem de_sl {e : Expr} {lo hi : Option Expr} {f : FE} {l u : FO} {pos p2 : Pos} (he : DE X e f) (hl : DO X lo l) (hu : DO X hi u) : DE X (.Subscript e (.Slice lo hi none p2) pos) (fSl f l u) := by
  refine ⟨?_⟩
  refine pe_imp (pe_slice (sl_list.or (sl_tupA.or sl_str)) he.pe hl.pe hu.pe) fun σ H Q => ?_
  rintro ⟨O, ts, ρ, T, w, T', hc, re, e, q⟩
  obtain ⟨w1, T1, e1, e⟩ := bnd_of e
  obtain ⟨o1, T2, e2, e⟩ := bnd_of e
  obtain ⟨o2, T3, e3, e⟩ := bnd_of e
  obtain ⟨x, d, h1, h3, rfl, rfl⟩ := op1_of e
  refine ⟨O, ts, ρ, T, w1, T1, hc, re, e1, fun v1 H1 s1 hc1 r1 => ?_⟩
  refine ⟨O, ts, ρ, T1, o1, T2, hc1, re.mono hc s1, e2, fun H2 s2 hc2 => ?_⟩
  refine ⟨O, ts, ρ, T2, o2, T', hc2, re.mono hc (s1.trans s2), e3, fun H3 s3 hc3 => ?_⟩
  have vw := hc3.view (r1.mono hc1 (s2.trans s3)) h1
  have q' : ∀ v H', SameX ts H3 H' → HC X.K O ts H' T' → Rep X.K O H' v d → Q v H' := fun v H' s c r => q v H' (s1.trans (s2.trans (s3.trans s))) c r
  clear q
  cases x with
  | list xs =>
    cases h3
    obtain ⟨a, vs, rfl, t, r⟩ := vw.lst
    exact .inl ⟨a, vs, rfl, t, fun p hp => q' _ _ (.new hp _) (hc3.new hp _) (hc3.newL hp (r.cut _ _))⟩
  | tuple xs =>
    cases h3
    obtain ⟨a, vs, rfl, t, r⟩ := vw.tup
    refine .inr (.inl ⟨a, vs, rfl, t.sq, fun hw => ?_, fun hw p hp => ?_⟩)
    · rw [r.length] at hw
      rw [cut_whole hw] at q'
      exact q' _ H3 (.refl _ _) hc3 vw.tupR
    · exact q' _ _ (.new hp _) (hc3.new hp _) (hc3.newT hp (r.cut _ _))
  | str z =>
    have h3' : (if z.length ≤ sizeLine then some (PyData.str (Txt.slice z o1 o2)) else none) = some d := h3
    split at h3'
    · rename_i hz
      cases h3'
      exact .inr (.inr ⟨z, vw.str, hz, q' _ H3 (.refl _ _) hc3 (.str _)⟩)
    · cases h3'
  | _ => cases h3
end
inductive Kd where
  | non | bl | int | str | tup | lst | dct
  deriving DecidableEq
noncomputable def Kd.name : Kd → String
  | .non => "NoneType" | .bl => "bool" | .int => "int" | .str => "str" | .tup => "tuple" | .lst => "list" | .dct => "dict"
noncomputable def kd : PyData → Kd
  | .none => .non | .bool _ => .bl | .int _ => .int | .str _ => .str | .list _ => .lst | .tuple _ => .tup | .dict _ => .dct
noncomputable def isiK (a b : Kd) : Bool := decide (a = b) || (decide (a = .bl) && decide (b = .int))
noncomputable def isiT (t c : String) : Option Bool := if (Value.type t == Value.type c) = true then some true else if PySem.W.kitMeta c = true then (fastBuiltinMro t).map (·.contains (.type c)) else none
theorem isi_all (a b : Kd) : b ≠ .non → isiT a.name b.name = some (isiK a b) := by
  cases a <;> cases b <;> first | (intro h; exact absurd rfl h) | (intro _; decide +kernel)
section
variable {X : Cx}
theorem call_isi : CallR X (.builtin "isinstance") (fun xs H Q => ∃ (x : V) (c : Kd) (O : Addr → Prop) (d : PyData), xs = [x, .ty c.name] ∧ Vw X.K O H x d ∧ c ≠ .non ∧ Q (.bl (isiK (kd d) c)) H) := by
  intro pins s σ H xs us Q I r h
  obtain ⟨x, c, O, d, rfl, vw, hc, q⟩ := h
  obtain ⟨u, w', rfl, ru, rw'⟩ := vals2 r
  cases (show w' = Value.type c.name from rw')
  have fin : ∀ tk, EP X pins σ Q (.bool (isiK (kd d) c)) { s with toks := tk } := fun tk => ⟨.bl _, H, I.tok _, rfl, q⟩
  cases d with
  | none => cases vw.non; exact isinst_ok I ru .non (show PySem.W.kitOne X.K (.type (Kd.name .non)) (.type c.name) = some _ from isi_all .non c hc) fin
  | bool b => cases vw.bl; exact isinst_ok I ru (.bl b) (show PySem.W.kitOne X.K (.type (Kd.name .bl)) (.type c.name) = some _ from isi_all .bl c hc) fin
  | int i => cases vw.int; exact isinst_ok I ru (.int i) (show PySem.W.kitOne X.K (.type (Kd.name .int)) (.type c.name) = some _ from isi_all .int c hc) fin
  | str z => cases vw.str; exact isinst_ok I ru (.str z) (show PySem.W.kitOne X.K (.type (Kd.name .str)) (.type c.name) = some _ from isi_all .str c hc) fin
  | list ds =>
    obtain ⟨a, vs, rfl, t, r⟩ := vw.lst
    cases (show u = Value.ref a from ru)
    obtain ⟨its, _, pl, _⟩ := I.list t
    obtain ⟨o, n, e, c1, _⟩ := pl
    exact PySem.W.kia_one PySem.W.kitx_list I.kIn ⟨o, e, c1⟩ (show PySem.W.kitOne X.K (.type (Kd.name .lst)) (.type c.name) = some _ from isi_all .lst c hc) (fun z => nomatch z) fin
  | tuple ds =>
    obtain ⟨a, vs, rfl, t, r⟩ := vw.tup
    cases (show u = Value.ref a from ru)
    obtain ⟨its, _, pl, _⟩ := I.tuple t.sq
    obtain ⟨o, e, c1, _⟩ := pl
    exact PySem.W.kia_one PySem.W.kitx_tuple I.kIn ⟨o, e, c1⟩ (show PySem.W.kitOne X.K (.type (Kd.name .tup)) (.type c.name) = some _ from isi_all .tup c hc) (fun z => nomatch z) fin
  | dict ds =>
    obtain ⟨a, vs, rfl, t, r⟩ := vw.dct
    cases (show u = Value.ref a from ru)
    obtain ⟨_, _, _, _, o, _, _, e, c1, _⟩ := dk_rd I.hok t
    exact PySem.W.kia_one PySem.W.kitx_dict I.kIn ⟨o, e, c1.1⟩ (show PySem.W.kitOne X.K (.type (Kd.name .dct)) (.type c.name) = some _ from isi_all .dct c hc) (fun z => nomatch z) fin
noncomputable def isiD (c : Kd) (x : PyData) : Option PyData := some (.bool (isiK (kd x) c))
theorem de_isi {e : Expr} {f : FE} {p p' pos : Pos} {T : Str} (c : Kd) (hi : X.mg "isinstance" = none) (he : DE X e f) (hm : X.mg T = none) (hb : bootBuiltins T = some (.type c.name)) (hcn : c ≠ .non := by decide) (hg : Gl X "isinstance" := by rfl) (hT : Gl X T := by rfl) (hn : T ≠ "__name__" := by decide) (hdb : (T == ("__debug__" : Str)) = false := by decide)
    (hs : starEach [e, .Name T p] X.env = (false, eval e X.env) :: starEach [.Name T p] X.env := by exact star_cons rfl) (hs2 : starEach [.Name T p] X.env = (false, eval (.Name T p) X.env) :: starEach [] X.env := by exact star_cons rfl)
    (hpl : (backTo pos (starEach [.Name T p] X.env)).any (·.1) = false := by exact star_any rfl) : DE X (.Call (.Name "isinstance" p') [e, .Name T p] [] pos) (fUn (isiD c) f) := by
  refine ⟨?_⟩
  refine pe_imp (pe_callB call_isi hg hi PyProof.Rows.boot_isinstance (pa_cons he.pe (pa_cons (pe_bltn (v := .ty c.name) hT hm hb rfl hn hdb) pa_nil hs2) hs) (by decide) (by decide) hs hpl) fun σ H Q => ?_
  rintro ⟨O, ts, ρ, T, w, T', hc, re, e, q⟩
  obtain ⟨w1, T1, e1, e⟩ := bnd_of e
  obtain ⟨x, d, h1, h3, rfl, rfl⟩ := op1_of e
  cases h3
  refine ⟨O, ts, ρ, T, w1, T', hc, re, e1, fun v1 H1 s1 hc1 r1 => ?_⟩
  exact ⟨v1, c, O, x, rfl, hc1.view r1 h1, hcn, q _ H1 s1 hc1 (.bl _)⟩
noncomputable def lenD : List PyData → Option PyData
  | [.list xs] => some (.int xs.length)
  | [.tuple xs] => some (.int xs.length)
  | [.str z] => if z.length ≤ sizeLine then some (.int z.length) else none
  | [.dict kvs] => some (.int kvs.length)
  | _ => none
theorem vws1 {K : PySem.W.Frag} {O : Addr → Prop} {H : Hp} {vs : List V} {x : PyData} (h : Vws K O H vs [x]) : ∃ v, vs = [v] ∧ Vw K O H v x := by
  cases h with | cons h t => cases t; exact ⟨_, rfl, h⟩
theorem vws2 {K : PySem.W.Frag} {O : Addr → Prop} {H : Hp} {vs : List V} {x y : PyData} (h : Vws K O H vs [x, y]) : ∃ v u, vs = [v, u] ∧ Vw K O H v x ∧ Vw K O H u y := by
  cases h with | cons h t => cases t with | cons h' t => cases t; exact ⟨_, _, rfl, h, h'⟩
theorem repk_len {K : PySem.W.Frag} {O : Addr → Prop} {H : Hp} : ∀ {kvs : List (Key × V)} {ds : List (PyData × PyData)}, RepK K O H kvs ds → kvs.length = ds.length
  | _, _, .nil => rfl
  | _, _, .cons _ t => congrArg (· + 1) (repk_len t)
theorem call_lenD : CallR X (.builtin "len") (fun xs H Q => ∃ a kvs, xs = [V.ref a] ∧ Rd H a (.dK kvs) ∧ Q (.int kvs.length) H) := by
  intro pins s σ H xs us Q I r h
  obtain ⟨a, kvs, rfl, ha, q⟩ := h
  obtain ⟨u, rfl, ru⟩ := vals1 r
  cases ru
  exact d_len I ha fun t s' I' => ⟨.int kvs.length, H, I', ⟨t, rfl⟩, q⟩
theorem c_len : CallD X (.builtin "len") lenD := ⟨_, call_len_seq.or (call_len_str.or call_lenD), fun O ts H T vs xs d Q hc h e q => by
  unfold lenD at e
  split at e
  · cases e
    obtain ⟨v, rfl, g⟩ := vws1 h
    obtain ⟨a, vs, rfl, t, r⟩ := g.lst
    exact .inl ⟨a, vs, rfl, .inl t, by rw [r.length]; exact q _ H (.refl _ _) hc (.int _)⟩
  · cases e
    obtain ⟨v, rfl, g⟩ := vws1 h
    obtain ⟨a, vs, rfl, t, r⟩ := g.tup
    exact .inl ⟨a, vs, rfl, .inr t.sq, by rw [r.length]; exact q _ H (.refl _ _) hc (.int _)⟩
  · split at e
    · rename_i hz
      cases e
      obtain ⟨v, rfl, g⟩ := vws1 h
      cases g.str
      exact .inr (.inl ⟨_, rfl, hz, q _ H (.refl _ _) hc (.int _)⟩)
    · cases e
  · cases e
    obtain ⟨v, rfl, g⟩ := vws1 h
    obtain ⟨a, kvs, rfl, t, r⟩ := g.dct
    exact .inr (.inr ⟨a, kvs, rfl, t, by rw [repk_len r]; exact q _ H (.refl _ _) hc (.int _)⟩)
  · cases e⟩
noncomputable def absD : List PyData → Option PyData
  | [.int i] => some (.int (if i < 0 then -i else i))
  | _ => none
theorem c_abs : CallD X (.builtin "abs") absD := ⟨_, call_abs, fun O ts H T vs xs d Q hc h e q => by
  unfold absD at e
  split at e
  · cases e
    obtain ⟨v, rfl, g⟩ := vws1 h
    cases g.int
    exact ⟨_, rfl, q _ H (.refl _ _) hc (.int _)⟩
  · cases e⟩
noncomputable def maxD2 : List PyData → Option PyData
  | [.int i, .int j] => some (.int (if j > i then j else i))
  | _ => none
noncomputable def minD2 : List PyData → Option PyData
  | [.int i, .int j] => some (.int (if j < i then j else i))
  | _ => none
theorem c_min (hc : X.calm = true := by rfl) : CallD X (.builtin "min") minD2 := ⟨_, call_min2 hc, fun O ts H T vs xs d Q hc h e q => by
  unfold minD2 at e
  split at e
  · cases e
    obtain ⟨v, u, rfl, g, g'⟩ := vws2 h
    cases g.int
    cases g'.int
    exact ⟨_, _, rfl, q _ H (.refl _ _) hc (.int _)⟩
  · cases e⟩
noncomputable def boolsD : List PyData → Option (List Bool)
  | [] => some []
  | .bool b :: r => (boolsD r).map (b :: ·)
  | _ => none
noncomputable def intsD : List PyData → Option (List Int)
  | [] => some []
  | .int b :: r => (intsD r).map (b :: ·)
  | _ => none
noncomputable def strsD : List PyData → Option (List Str)
  | [] => some []
  | .str b :: r => (strsD r).map (b :: ·)
  | _ => none
theorem bools_of {K : PySem.W.Frag} {O : Addr → Prop} {H : Hp} : ∀ {vs : List V} {xs : List PyData} {bs : List Bool}, Reps K O H vs xs → boolsD xs = some bs → vs = bs.map V.bl
  | _, _, _, .nil, e => by cases e; rfl
  | _, x :: r, bs, .cons h t, e => by
    cases x with
    | bool b =>
      obtain ⟨cs, e1, rfl⟩ := Option.map_eq_some_iff.mp (show (boolsD r).map (b :: ·) = some bs from e)
      cases h
      rw [bools_of t e1]
      rfl
    | _ => cases e
theorem ints_of' {K : PySem.W.Frag} {O : Addr → Prop} {H : Hp} : ∀ {vs : List V} {xs : List PyData} {bs : List Int}, Reps K O H vs xs → intsD xs = some bs → vs = bs.map V.int
  | _, _, _, .nil, e => by cases e; rfl
  | _, x :: r, bs, .cons h t, e => by
    cases x with
    | int b =>
      obtain ⟨cs, e1, rfl⟩ := Option.map_eq_some_iff.mp (show (intsD r).map (b :: ·) = some bs from e)
      cases h
      rw [ints_of' t e1]
      rfl
    | _ => cases e
theorem strs_of {K : PySem.W.Frag} {O : Addr → Prop} {H : Hp} : ∀ {vs : List V} {xs : List PyData} {bs : List Str}, Reps K O H vs xs → strsD xs = some bs → vs = bs.map V.str
  | _, _, _, .nil, e => by cases e; rfl
  | _, x :: r, bs, .cons h t, e => by
    cases x with
    | str b =>
      obtain ⟨cs, e1, rfl⟩ := Option.map_eq_some_iff.mp (show (strsD r).map (b :: ·) = some bs from e)
      cases h
      rw [strs_of t e1]
      rfl
    | _ => cases e
noncomputable def allD : List PyData → Option PyData
  | [.list xs] => (boolsD xs).map fun bs => .bool (bs.all id)
  | _ => none
theorem c_all (hc : X.calm = true := by rfl) : CallD X (.builtin "all") allD := ⟨_, call_all hc, fun O ts H T vs xs d Q hc h e q => by
  unfold allD at e
  split at e
  · obtain ⟨bs, e1, rfl⟩ := Option.map_eq_some_iff.mp e
    obtain ⟨v, rfl, g⟩ := vws1 h
    obtain ⟨a, vs, rfl, t, r⟩ := g.lst
    rw [bools_of r e1] at t
    exact ⟨a, bs, rfl, t, q _ H (.refl _ _) hc (.bl _)⟩
  · cases e⟩
noncomputable def sumD : List PyData → Option PyData
  | [.list xs] => (intsD xs).map fun bs => .int bs.sum
  | _ => none
theorem c_sum (hc : X.calm = true := by rfl) : CallD X (.builtin "sum") sumD := ⟨_, call_sum hc, fun O ts H T vs xs d Q hc h e q => by
  unfold sumD at e
  split at e
  · obtain ⟨bs, e1, rfl⟩ := Option.map_eq_some_iff.mp e
    obtain ⟨v, rfl, g⟩ := vws1 h
    obtain ⟨a, vs, rfl, t, r⟩ := g.lst
    rw [ints_of' r e1] at t
    exact ⟨a, bs, rfl, t, q _ H (.refl _ _) hc (.int _)⟩
  · cases e⟩
noncomputable def maxdD : PyData → PyData → Option PyData
  | .list xs, .int d => (intsD xs).map fun bs => .int (K1.maxD d bs)
  | _, _ => none
noncomputable def tupleD : List PyData → Option PyData
  | [.list xs] => some (.tuple xs)
  | [.tuple xs] => some (.tuple xs)
  | _ => none
theorem c_tuple : CallD X (.type "tuple") tupleD := ⟨_, call_tuple_of, fun O ts H T vs xs d Q hc h e q => by
  unfold tupleD at e
  split at e
  · cases e
    obtain ⟨v, rfl, g⟩ := vws1 h
    obtain ⟨a, vs, rfl, t, r⟩ := g.lst
    exact ⟨a, vs, rfl, .inl ⟨t, fun p hp => q _ _ (.new hp _) (hc.new hp _) (hc.newT hp r)⟩⟩
  · cases e
    obtain ⟨v, rfl, g⟩ := vws1 h
    obtain ⟨a, vs, e1, t, r⟩ := g.tup
    subst e1
    exact ⟨a, vs, rfl, .inr ⟨t.sq, q _ H (.refl _ _) hc (.tup t r)⟩⟩
  · cases e⟩
noncomputable def listD : List PyData → Option PyData
  | [.list xs] => some (.list xs)
  | [.tuple xs] => some (.list xs)
  | _ => none
theorem c_list : CallD X (.type "list") listD := ⟨_, call_list_of, fun O ts H T vs xs d Q hc h e q => by
  unfold listD at e
  split at e
  · cases e
    obtain ⟨v, rfl, g⟩ := vws1 h
    obtain ⟨a, vs, rfl, t, r⟩ := g.lst
    exact ⟨a, vs, rfl, .inl t, fun p hp => q _ _ (.new hp _) (hc.new hp _) (hc.newL hp r)⟩
  · cases e
    obtain ⟨v, rfl, g⟩ := vws1 h
    obtain ⟨a, vs, rfl, t, r⟩ := g.tup
    exact ⟨a, vs, rfl, .inr t.sq, fun p hp => q _ _ (.new hp _) (hc.new hp _) (hc.newL hp r)⟩
  · cases e⟩
theorem mt_joinG : MtR X "str.join" (fun x vs H Q => ∃ (z : Str) (l : Addr) (ys : List Str), x = .str z ∧ vs = [.ref l] ∧ SqL X.K H l (ys.map V.str) ∧ (ys.map (·.length)).sum + ys.length * z.length ≤ 16777216 ∧ Q (.str (Str.join z ys)) H) := by
  intro pins s σ H x vs v us Q I rx rv h
  obtain ⟨z, l, ys, rfl, rfl, hq, hz, q⟩ := h
  obtain ⟨t, rfl⟩ := rx
  obtain ⟨u, rfl, ru⟩ := vals1 rv
  cases ru
  obtain ⟨its, rw', pl, _⟩ := I.list hq
  refine join_list (ys := ys) pl.isList (by simpa using strsAre_of rw') hz fun t' k => ⟨.str _, H, I.tok _, ⟨t', ?_⟩, q⟩
  show Value.str (Builtin.Str.glued z ys) t' = _
  rw [StrLaws.glued_eq_join]
end
end D
namespace D
open PySem PySem.Spec PyProof.Rows L2
mutual
noncomputable def noLst : PyData → Bool
  | .list _ => false
  | .tuple ds => noLsts ds
  | .dict kvs => noLstK kvs
  | .none | .bool _ | .int _ | .str _ => true
noncomputable def noLsts : List PyData → Bool
  | [] => true
  | d :: r => noLst d && noLsts r
noncomputable def noLstK : List (PyData × PyData) → Bool
  | [] => true
  | (_, v) :: r => noLst v && noLstK r
end
section
variable {X : Cx} {pins : List (Addr × Obj)} {σ : L2.St} {H : Hp} {s : Shared} {O : Addr → Prop}
theorem key_reads {h : Heap} {k : Key} {v : Value} (e : keyIs k v = true) : Reads h v (keyD k) [] := by
  rcases keyIs_shape e with ⟨i, t, rfl, rfl⟩ | ⟨x, t, rfl, rfl⟩
  · exact .int i t
  · exact .str x t
mutual
theorem Rep.reads (I : Inv X pins σ H s) : ∀ {v : V} {d : PyData} {u : Value}, Rep X.K O H v d → RelV v u → ∃ as, Reads s.heap u d as ∧ (noLst d = true → sysModules ∉ as)
  | _, _, _, .non, r => by cases r; exact ⟨_, .none, fun _ => by simp⟩
  | _, _, _, .bl b, r => by cases r; exact ⟨_, .bool b, fun _ => by simp⟩
  | _, _, _, .int i, r => by obtain ⟨t, rfl⟩ := r; exact ⟨_, .int i t, fun _ => by simp⟩
  | _, _, _, .str x, r => by obtain ⟨t, rfl⟩ := r; exact ⟨_, .str x t, fun _ => by simp⟩
  | _, _, _, .tup (a := a) (vs := vs) h rs, r => by
    cases r
    obtain ⟨its, rv, ⟨o, e, c, n, dd⟩, _⟩ := I.tuple h.sq
    obtain ⟨as, q, f⟩ := Reps.reads I rs rv
    exact ⟨as, .tuple e c dd (by simpa using q), f⟩
  | _, _, _, .lst (a := a) (vs := vs) h rs, r => by
    cases r
    obtain ⟨its, rv, pl, _⟩ := I.list h.sq
    obtain ⟨o, n, e, c, _, dd⟩ := pl
    obtain ⟨as, q, f⟩ := Reps.reads I rs rv
    exact ⟨_, .list e c dd (by simpa using q), fun z => by cases z⟩
  | _, _, _, .dct (a := a) (kvs := kvs) (ds := ds) _ h rk, r => by
    cases r
    obtain ⟨z, y, vs, kv, o, es, ep, e, ed, dd, _, ek, _⟩ := (show ObjOk X.prog X.w H s.heap a (.dK kvs) from (I.hok a _ h).2)
    obtain ⟨bs, q1, q2, f⟩ := RepK.reads I rk kv ek
    refine ⟨_, .dict (kvs := ds) (as := []) (bs := bs) e ed.1 dd q1 q2, fun zz hm => ?_⟩
    rcases List.mem_cons.mp (by simpa using hm : sysModules ∈ a :: bs) with q | q
    · rw [q] at y
      simp at y
    · exact f zz q
theorem Reps.reads (I : Inv X pins σ H s) : ∀ {vs : List V} {ds : List PyData} {us : List Value}, Reps X.K O H vs ds → Vals vs us → ∃ as, ReadsAll s.heap us ds as ∧ (noLsts ds = true → sysModules ∉ as)
  | _, _, _, .nil, r => by cases r; exact ⟨_, .nil, fun _ => by simp⟩
  | _, _, _, .cons (d := d) (ds := ds) q t, r => by
    cases r with
    | cons r1 r2 =>
      obtain ⟨as, h1, f1⟩ := Rep.reads I q r1
      obtain ⟨bs, h2, f2⟩ := Reps.reads I t r2
      refine ⟨as ++ bs, .cons h1 h2, fun z => ?_⟩
      have z' : (noLst d && noLsts ds) = true := z
      rw [Bool.and_eq_true] at z'
      intro hm
      rcases List.mem_append.mp hm with hm | hm
      · exact f1 z'.1 hm
      · exact f2 z'.2 hm
theorem RepK.reads (I : Inv X pins σ H s) : ∀ {kvs : List (Key × V)} {ds : List (PyData × PyData)} {vs : List (Key × Value)} {es : List DictEntry}, RepK X.K O H kvs ds → KV kvs vs → Pairs (mixKind X.prog X.w) es vs →
    ∃ bs, ReadsAll s.heap (es.map (·.key)) (ds.map (·.1)) [] ∧ ReadsAll s.heap (es.map (·.val)) (ds.map (·.2)) bs ∧ (noLstK ds = true → sysModules ∉ bs)
  | _, _, _, _, .nil, r, ek => by
    cases r
    cases ek
    exact ⟨[], .nil, .nil, fun _ => by simp⟩
  | _, _, _, _, .cons (k := k) (d := d) (ds := ds) q t, r, ek => by
    cases r with
    | cons r1 r2 =>
      cases ek with
      | cons e1 e1' e2 =>
        obtain ⟨as, h1, f1⟩ := Rep.reads I q r1.2
        obtain ⟨bs, h2, h3, f2⟩ := RepK.reads I t r2 e2
        rw [← e1'] at h1
        have k1 := key_reads (h := s.heap) (show keyIs _ _ = true from e1)
        rw [← r1.1] at k1
        refine ⟨as ++ bs, .cons (as := []) (bs := []) k1 h2, .cons h1 h3, fun z => ?_⟩
        have z' : (noLst d && noLstK ds) = true := z
        rw [Bool.and_eq_true] at z'
        intro hm
        rcases List.mem_append.mp hm with hm | hm
        · exact f1 z'.1 hm
        · exact f2 z'.2 hm
end
end
noncomputable def goodB (d : PyData) : Bool := d.showable && d.leavesShort 200 && decide (d.depth ≤ 60) && decide (d.weight ≤ 60000) && (!d.hasDict || noLst d)
theorem shown_fits {d : PyData} (h1 : d.leavesShort 200 = true) (h2 : d.weight ≤ 60000) : d.shown.length ≤ sizeLine := by
  have q := PyData.shown_le 200 (by decide) d h1
  have e : sizeLine = 16777216 := by decide
  have : (200 + 2) * d.weight ≤ 202 * 60000 := Nat.mul_le_mul_left _ h2
  omega
section
variable {X : Cx}
theorem call_repr {k : Nat} (hr : Room k X.A) : CallR X (.builtin "repr") (fun xs H Q => ∃ O x d, xs = [x] ∧ Rep X.K O H x d ∧ goodB d = true ∧ Q (.str d.shown) H) := by
  intro pins s σ H xs us Q I r h
  obtain ⟨O, x, d, rfl, rp, hg, q⟩ := h
  unfold goodB at hg
  rw [Bool.and_eq_true, Bool.and_eq_true, Bool.and_eq_true, Bool.and_eq_true] at hg
  obtain ⟨⟨⟨⟨g1, g2⟩, g3⟩, g4⟩, g5⟩ := hg
  have g3 := of_decide_eq_true g3
  have g4 := of_decide_eq_true g4
  obtain ⟨u, rfl, ru⟩ := vals1 r
  have hz := shown_fits g2 g4
  have fin : ∀ h' t k', (∀ b o, s.heap.get? b = some o → h'.get? b = some o) → EP X pins σ Q (.str d.shown t) { s with heap := h', toks := k' } := fun h' t k' kk => ⟨.str d.shown, H, I.kept kk, ⟨t, rfl⟩, q⟩
  have big : ∀ a, u = .ref a → wpAny (model X.prog X.w) X.A (call (.builtin "repr") [u]) (EP X pins σ Q) X.xe s := fun a e => by
    obtain ⟨as, rd, f⟩ := rp.reads I ru
    subst e
    refine repr_of_reads' rd g1 (fun z => f ?_) hr.gd ?_ (fun _ _ e => e) (fun h' u tk kk => fin h' u tk kk) hz
    · rw [z] at g5
      simpa using g5
    · have h2 := hr.un
      omega
  cases rp with
  | non => cases ru; exact PySem.P.repr_of_none (fin _ _ _ fun _ _ e => e)
  | bl b => cases ru; exact PySem.P.repr_of_bool (fin _ _ _ fun _ _ e => e)
  | int i =>
    obtain ⟨t, rfl⟩ := ru
    exact PySem.P.repr_of_int (of_decide_eq_true g1) (fin _ _ _ fun _ _ e => e)
  | str x =>
    obtain ⟨t, rfl⟩ := ru
    exact PySem.P.repr_of_str (fin _ _ _ fun _ _ e => e) hz
  | tup _ _ => exact big _ ru
  | lst _ _ => exact big _ ru
  | dct _ _ _ => exact big _ ru
noncomputable def reprW (T : Tp) (w : W) : Option (W × Tp) := match w with
  | .d x => if goodB x = true then some (.d (.str x.shown), T) else none
  | _ => none
noncomputable def fRepr (f : FE) : FE := fun ρ T => bnd (f ρ T) fun w T1 => reprW T1 w
theorem de_repr {k : Nat} {e : Expr} {f : FE} {p pos : Pos} (hr : Room k X.A) (hm : X.mg "repr" = none) (he : DE X e f) (hg : Gl X "repr" := by rfl) (hse : starEach [e] X.env = (false, eval e X.env) :: starEach [] X.env := by exact star_cons rfl) (hpl : (backTo pos (starEach [] X.env)).any (·.1) = false := by exact star_any rfl) :
    DE X (.Call (.Name "repr" p) [e] [] pos) (fRepr f) := by
  refine ⟨?_⟩
  refine pe_imp (pe_callB (call_repr hr) hg hm boot_repr (pa_cons he.pe pa_nil hse) (by decide) (by decide) hse hpl) fun σ H Q => ?_
  rintro ⟨O, ts, ρ, T, w, T', hc, re, e, q⟩
  obtain ⟨w1, T1, e1, e⟩ := bnd_of e
  refine ⟨O, ts, ρ, T, w1, T1, hc, re, e1, fun v1 H1 s1 hc1 r1 => ?_⟩
  unfold reprW at e
  split at e
  · split at e
    · rename_i x hx
      cases e
      exact ⟨O, v1, x, rfl, r1, hx, q _ H1 s1 hc1 (.str _)⟩
    · cases e
  · cases e
end
end D
namespace D
open PySem PySem.Spec PyProof.Rows L2
structure Df (K : PySem.W.Frag) (name : Str) (st : Stmt) : Prop where
  ex : ∃ (f : Addr) (oc : Value) (od an : Option Addr) (sl : Array (Option Value)) (kV dc pm cd ct : Value), PySem.W.nsIn K mainGlobals name = some (some (.ref f)) ∧
    K.lookup f = some ⟨oc, od, .func (PySem.W.fnOf name name (defArgs st) (defBody st) (defScope st) .none kV dc pm an cd ct), sl⟩ ∧ PySem.W.codeIn K cd name = true ∧ PySem.W.keepIn K (.ref f) = true
theorem df_mk {K : PySem.W.Frag} {name : Str} {st : Stmt} {f : Addr} {oc : Value} {od an : Option Addr} {sl : Array (Option Value)} {kV dc pm cd ct : Value} (a : PySem.W.nsIn K mainGlobals name = some (some (.ref f)))
    (l : K.lookup f = some ⟨oc, od, .func (PySem.W.fnOf name name (defArgs st) (defBody st) (defScope st) .none kV dc pm an cd ct), sl⟩) (c : PySem.W.codeIn K cd name = true) (k : PySem.W.keepIn K (.ref f) = true) : Df K name st :=
  ⟨f, oc, od, an, sl, kV, dc, pm, cd, ct, a, l, c, k⟩
theorem Df.fn {P : Program} {w : World} {K : PySem.W.Frag} {mg : Str → Option Value} {base h : Heap} {name : Str} {st : Stmt} {ps : List Str} {k : Nat} {sp : Sp} (d : Df K name st) (X : K.In h) (G : h.Ns mainGlobals mg)
    (hb : ∀ (kV doc pm : Value) (an : Option Addr) (cdv ct : Value) (us : List Value), us.length = ps.length → bindArgs (PySem.W.fnOf name name (defArgs st) (defBody st) (defScope st) .none kV doc pm an cdv ct) ⟨us, []⟩ = pure (ps.zip us))
    (ok : ∀ f fd, Fun K name name st f fd → FnOk P w K mg base CX0 k f fd ps sp) : Fn P w K mg base name ps k sp := by
  obtain ⟨f, oc, od, an, sl, kV, dc, pm, cd, ct, a, l, c, kp⟩ := d.ex
  have F := fun_mk (st := st) l c kp
  exact ⟨f, _, ok f _ F, F.binds hb, kp, PySem.W.mg_of X G a⟩
theorem fn_none {P : Program} {w : World} {K : PySem.W.Frag} {mg : Str → Option Value} {base : Heap} {k n : Nat} {f : Addr} {fd : FuncData} {ps : List Str} : FnOk P w K mg base CX0 k f fd ps (spM K n fun _ _ => none) := by
  have no : ∀ vs H Q E, ¬ spM K n (fun _ _ => none) vs H Q E := fun vs H Q E h => by
    obtain ⟨O, ts, T, ws, x, T', _, _, _, e, _⟩ := h
    cases e
  exact ⟨fun vs H Q E h => absurd h (no vs H Q E), fun A outer s H args us vs Q E _ _ _ _ h => absurd h (no vs H Q E)⟩
noncomputable def spLaw (K : PySem.W.Frag) : Sp := fun vs H Q _ => ∃ (a : Addr) (ns : List Int), vs = [.ref a] ∧ SqL K H a (ns.map V.int) ∧ ns.length ≤ 63 ∧ ∀ H', Q (.bl true) H'
noncomputable def script (ns : List Int) : PyData := .list (ns.map .int)
theorem reps_ints {K : PySem.W.Frag} {O : Addr → Prop} {H : Hp} : ∀ ns : List Int, Reps K O H (ns.map V.int) (ns.map PyData.int)
  | [] => .nil
  | _ :: r => .cons (.int _) (reps_ints r)
end D
namespace D
open PySem PySem.Spec PyProof.Rows L2
section
variable {α β : Type} {ρ : Rho} {T : Tp} {f g : FE} {c c' : FT} {s s' : FS} {a : FA} {w w' : W} {x y : PyData}
@[simp] theorem ev_bnd {b : α} {k : α → Tp → Option β} : bnd (some (b, T)) k = k b T := rfl
@[simp] theorem ev_bndN {k : α → Tp → Option β} : bnd none k = none := rfl
@[simp] theorem ev_bndI {p : Prop} [Decidable p] {u v : Option (α × Tp)} {k : α → Tp → Option β} : bnd (if p then u else v) k = if p then bnd u k else bnd v k := by split <;> rfl
@[simp] theorem ev_mk {N : Nat} {ws : List W} : mkFn N s ws T = if noLoc ws = true then fnEnd (s (ws.map some ++ List.replicate (N - ws.length) none) T) else none := rfl
@[simp] theorem ev_noLoc0 : noLoc [] = true := rfl
@[simp] theorem ev_noLocD {r : List W} : noLoc (.d x :: r) = noLoc r := rfl
@[simp] theorem ev_noLocT {i : Nat} {r : List W} : noLoc (.tp i :: r) = noLoc r := rfl
@[simp] theorem ev_endR {r : Rho} : fnEnd (some ((.rt x, r), T)) = some (x, T) := rfl
@[simp] theorem ev_endN {r : Rho} : fnEnd (some ((.nx, r), T)) = some (.none, T) := rfl
@[simp] theorem ev_endI {p : Prop} [Decidable p] {u v : Option ((Fl × Rho) × Tp)} : fnEnd (if p then u else v) = if p then fnEnd u else fnEnd v := by split <;> rfl
noncomputable def seqK (s' : FS) (p : Fl × Rho) (T : Tp) : Option ((Fl × Rho) × Tp) := match p with
  | (.nx, ρ1) => s' ρ1 T
  | (fl, ρ1) => some ((fl, ρ1), T)
@[simp] theorem ev_seq : fSeq s s' ρ T = bnd (s ρ T) (seqK s') := rfl
@[simp] theorem ev_seqN {ρ1 : Rho} : seqK s' (.nx, ρ1) T = s' ρ1 T := rfl
@[simp] theorem ev_seqR {ρ1 : Rho} : seqK s' (.rt x, ρ1) T = some ((.rt x, ρ1), T) := rfl
@[simp] theorem ev_seqB {ρ1 : Rho} : seqK s' (.bk, ρ1) T = some ((.bk, ρ1), T) := rfl
@[simp] theorem ev_seqC {ρ1 : Rho} : seqK s' (.ct, ρ1) T = some ((.ct, ρ1), T) := rfl
@[simp] theorem ev_next : fNext ρ T = some ((.nx, ρ), T) := rfl
noncomputable def ifK (s s' : FS) (ρ : Rho) (b : Bool) (T1 : Tp) : Option ((Fl × Rho) × Tp) := if b = true then s ρ T1 else s' ρ T1
@[simp] theorem ev_if : fIf c s s' ρ T = bnd (c ρ T) (ifK s s' ρ) := rfl
@[simp] theorem ev_ifK {b : Bool} : ifK s s' ρ b T = if b = true then s ρ T else s' ρ T := rfl
noncomputable def retK (ρ : Rho) : W → Tp → Option ((Fl × Rho) × Tp) := fun w T1 => match w with
  | .d x => some ((.rt x, ρ), T1)
  | _ => none
@[simp] theorem ev_ret : fRet f ρ T = bnd (f (frzR ρ) T) (retK ρ) := rfl
@[simp] theorem ev_retD : retK ρ (.d x) T = some ((.rt x, ρ), T) := rfl
@[simp] theorem ev_frz0 : frzR [] = [] := rfl
@[simp] theorem ev_frzN {r : Rho} : frzR (none :: r) = none :: frzR r := rfl
@[simp] theorem ev_frzD {r : Rho} : frzR (some (.d x) :: r) = some (.d x) :: frzR r := rfl
@[simp] theorem ev_frzT {i : Nat} {r : Rho} : frzR (some (.tp i) :: r) = some (.tp i) :: frzR r := rfl
@[simp] theorem ev_frzL {x : PyData} {r : Rho} : frzR (some (.loc x) :: r) = some (.d x) :: frzR r := rfl
noncomputable def setK (i : Nat) (ρ : Rho) : W → Tp → Option ((Fl × Rho) × Tp) := fun w T1 => match w with
  | .d x => some ((.nx, ρ.set i (some (.d x))), T1)
  | .tp k => some ((.nx, ρ.set i (some (.tp k))), T1)
  | .loc _ => none
@[simp] theorem ev_set {i : Nat} : fSet i f ρ T = bnd (f ρ T) (setK i ρ) := rfl
@[simp] theorem ev_setD {i : Nat} : setK i ρ (.d x) T = some ((.nx, ρ.set i (some (.d x))), T) := rfl
@[simp] theorem ev_setT {i k : Nat} : setK i ρ (.tp k) T = some ((.nx, ρ.set i (some (.tp k))), T) := rfl
noncomputable def setLK (i : Nat) (ρ : Rho) (T : Tp) : Option (List PyData) → Option ((Fl × Rho) × Tp)
  | some xs => if xs.length ≤ 1000 then some ((.nx, ρ.set i (some (.loc (.list xs)))), T) else none
  | none => none
@[simp] theorem ev_setL {i : Nat} : fSetL i a ρ T = bnd (a ρ T) fun ws T1 => setLK i ρ T1 (datas ws) := rfl
@[simp] theorem ev_setLK {i : Nat} {xs : List PyData} : setLK i ρ T (some xs) = if xs.length ≤ 1000 then some ((.nx, ρ.set i (some (.loc (.list xs)))), T) else none := rfl
noncomputable def appK (i : Nat) (ρ : Rho) (x : PyData) (T : Tp) (o : Option (Option W)) : Option ((Fl × Rho) × Tp) := match o with
  | some (some (.loc (.list xs))) => if xs.length < sizeLine then some ((.nx, ρ.set i (some (.loc (.list (xs ++ [x]))))), T) else none
  | _ => none
noncomputable def appW (i : Nat) (ρ : Rho) : W → Tp → Option ((Fl × Rho) × Tp) := fun w T1 => match w with
  | .d x => (match ρ[i]? with
    | some (some (.loc (.list xs))) => if xs.length < sizeLine then some ((.nx, ρ.set i (some (.loc (.list (xs ++ [x]))))), T1) else none
    | _ => none)
  | _ => none
@[simp] theorem ev_app {i : Nat} : fApp i f ρ T = bnd (f ρ T) (appW i ρ) := rfl
@[simp] theorem ev_appW {i : Nat} : appW i ρ (.d x) T = appK i ρ x T ρ[i]? := rfl
@[simp] theorem ev_appK {i : Nat} {xs : List PyData} : appK i ρ x T (some (some (.loc (.list xs)))) = if xs.length < sizeLine then some ((.nx, ρ.set i (some (.loc (.list (xs ++ [x]))))), T) else none := rfl
@[simp] theorem ev_sl {l u : FO} : fSl f l u ρ T = bnd (f ρ T) fun w T1 => bnd (l ρ T1) fun lo T2 => bnd (u ρ T2) fun hi T3 => op1 (fun x => sliceD x lo hi) T3 w := rfl
@[simp] theorem ev_noP : fNoP ρ T = some (none, T) := rfl
noncomputable def pK : W → Tp → Option (Option Int × Tp) := fun w T1 => match w with
  | .d (.int i) => some (some i, T1)
  | _ => none
@[simp] theorem ev_P : fP f ρ T = bnd (f ρ T) pK := rfl
@[simp] theorem ev_pK {i : Int} : pK (.d (.int i)) T = some (some i, T) := rfl
@[simp] theorem ev_slS {z : Str} {lo hi : Option Int} : sliceD (.str z) lo hi = if z.length ≤ sizeLine then some (.str (Txt.slice z lo hi)) else none := rfl
@[simp] theorem ev_slT {xs : List PyData} {lo hi : Option Int} : sliceD (.tuple xs) lo hi = some (.tuple (cutL xs lo hi)) := rfl
@[simp] theorem ev_slL {xs : List PyData} {lo hi : Option Int} : sliceD (.list xs) lo hi = some (.list (cutL xs lo hi)) := rfl
@[simp] theorem ev_drop : fDrop f ρ T = bnd (f ρ T) fun _ T1 => some ((.nx, ρ), T1) := rfl
@[simp] theorem ev_var0 {o : W} {r : Rho} : fVar 0 (some o :: r) T = some (o, T) := rfl
@[simp] theorem ev_varS {i : Nat} {o : Option W} {r : Rho} : fVar (i + 1) (o :: r) T = fVar i r T := rfl
@[simp] theorem ev_var1 {o : Option W} {r : Rho} : fVar 1 (o :: r) T = fVar 0 r T := ev_varS
@[simp] theorem ev_var2 {o : Option W} {r : Rho} : fVar 2 (o :: r) T = fVar 1 r T := ev_varS
@[simp] theorem ev_var3 {o : Option W} {r : Rho} : fVar 3 (o :: r) T = fVar 2 r T := ev_varS
@[simp] theorem ev_var4 {o : Option W} {r : Rho} : fVar 4 (o :: r) T = fVar 3 r T := ev_varS
@[simp] theorem ev_var5 {o : Option W} {r : Rho} : fVar 5 (o :: r) T = fVar 4 r T := ev_varS
@[simp] theorem ev_var6 {o : Option W} {r : Rho} : fVar 6 (o :: r) T = fVar 5 r T := ev_varS
@[simp] theorem ev_var7 {o : Option W} {r : Rho} : fVar 7 (o :: r) T = fVar 6 r T := ev_varS
@[simp] theorem ev_var8 {o : Option W} {r : Rho} : fVar 8 (o :: r) T = fVar 7 r T := ev_varS
@[simp] theorem ev_var9 {o : Option W} {r : Rho} : fVar 9 (o :: r) T = fVar 8 r T := ev_varS
@[simp] theorem ev_C : fC x ρ T = some (.d x, T) := rfl
@[simp] theorem ev_view : view T (.d x) = some x := rfl
@[simp] theorem ev_viewT {i : Nat} : view T (.tp i) = (T[i]?).bind rowV := rfl
@[simp] theorem ev_rowV {xs : List PyData} : rowV xs = if isO xs = true then none else some (.list xs) := rfl
@[simp] theorem isO_lst {xs r : List PyData} : isO (.list xs :: r) = false := rfl
@[simp] theorem ev_viewL {xs : List PyData} : view T (.loc (.list xs)) = some (.list xs) := rfl
@[simp] theorem ev_viewLD {xs : List (PyData × PyData)} : view T (.loc (.dict xs)) = some (.dict xs) := rfl
noncomputable def mkD (T : Tp) (o : Option PyData) : Option (W × Tp) := match o with
  | some d => some (.d d, T)
  | none => none
@[simp] theorem ev_mkD : mkD T (some x) = some (.d x, T) := rfl
@[simp] theorem ev_mkDN : mkD T none = none := rfl
@[simp] theorem ev_mkDI {p : Prop} [Decidable p] {u v : Option PyData} : mkD T (if p then u else v) = if p then mkD T u else mkD T v := by split <;> rfl
noncomputable def binK (o : PyData → PyData → Option PyData) (g : FE) (ρ : Rho) (w1 : W) (T1 : Tp) : Option (W × Tp) := bnd (g ρ T1) fun w2 T2 => op2 o T2 w1 w2
@[simp] theorem ev_bin {o : PyData → PyData → Option PyData} : fBin o f g ρ T = bnd (f ρ T) (binK o g ρ) := rfl
@[simp] theorem ev_binK {o : PyData → PyData → Option PyData} : binK o g ρ w T = bnd (g ρ T) fun w2 T2 => op2 o T2 w w2 := rfl
@[simp] theorem ev_op2 {o : PyData → PyData → Option PyData} : op2 o T (.d x) (.d y) = mkD T (o x y) := rfl
@[simp] theorem ev_op2T {o : PyData → PyData → Option PyData} {zs xs : List PyData} {r : Tp} : op2 o ((.list zs :: xs) :: r) (.tp 0) (.d y) = mkD ((.list zs :: xs) :: r) (o (.list (.list zs :: xs)) y) := rfl
@[simp] theorem ev_un {o : PyData → Option PyData} : fUn o f ρ T = bnd (f ρ T) fun w1 T1 => op1 o T1 w1 := rfl
@[simp] theorem ev_op1 {o : PyData → Option PyData} : op1 o T (.d x) = mkD T (o x) := rfl
@[simp] theorem ev_asB {b : Bool} : asB (.d (.bool b)) = some b := rfl
noncomputable def tstK : W → Tp → Option (Bool × Tp) := fun w T1 => match asB w with
  | some b => some (b, T1)
  | none => none
@[simp] theorem ev_tst : fTst f ρ T = bnd (f ρ T) tstK := rfl
@[simp] theorem ev_tstK {b : Bool} : tstK (.d (.bool b)) T = some (b, T) := rfl
@[simp] theorem ev_tru : fTru f ρ T = bnd (f ρ T) fun w T1 => tru1 T1 w := rfl
noncomputable def truK (T : Tp) (o : Option Bool) : Option (Bool × Tp) := match o with
  | some b => some (b, T)
  | none => none
@[simp] theorem ev_tru1 : tru1 T (.d x) = truK T (truD x) := rfl
@[simp] theorem ev_truK {b : Bool} : truK T (some b) = some (b, T) := rfl
@[simp] theorem ev_truB {b : Bool} : truD (.bool b) = some b := rfl
noncomputable def andTK (c' : FT) (ρ : Rho) (b : Bool) (T1 : Tp) : Option (Bool × Tp) := if b = true then c' ρ T1 else some (false, T1)
@[simp] theorem ev_andT : fAndT c c' ρ T = bnd (c ρ T) (andTK c' ρ) := rfl
@[simp] theorem ev_andTK {b : Bool} : andTK c' ρ b T = if b = true then c' ρ T else some (false, T) := rfl
noncomputable def orTK (c' : FT) (ρ : Rho) (b : Bool) (T1 : Tp) : Option (Bool × Tp) := if b = true then some (true, T1) else c' ρ T1
@[simp] theorem ev_orT : fOrT c c' ρ T = bnd (c ρ T) (orTK c' ρ) := rfl
@[simp] theorem ev_orTK {b : Bool} : orTK c' ρ b T = if b = true then some (true, T) else c' ρ T := rfl
@[simp] theorem ev_notT : fNotT c ρ T = bnd (c ρ T) fun b T1 => some (!b, T1) := rfl
@[simp] theorem ev_trueT : fTrue ρ T = some (true, T) := rfl
noncomputable def andK (g : FE) (ρ : Rho) (w : W) (T : Tp) : Option (W × Tp) := match asB w with
  | some b => if b = true then g ρ T else some (.d (.bool false), T)
  | none => none
@[simp] theorem ev_andV : fAndV f g ρ T = bnd (f ρ T) (andK g ρ) := rfl
@[simp] theorem ev_andK {b : Bool} : andK g ρ (.d (.bool b)) T = if b = true then g ρ T else some (.d (.bool false), T) := rfl
noncomputable def orK (g : FE) (ρ : Rho) (w : W) (T : Tp) : Option (W × Tp) := match asB w with
  | some b => if b = true then some (.d (.bool true), T) else g ρ T
  | none => none
@[simp] theorem ev_orV : fOrV f g ρ T = bnd (f ρ T) (orK g ρ) := rfl
@[simp] theorem ev_orK {b : Bool} : orK g ρ (.d (.bool b)) T = if b = true then some (.d (.bool true), T) else g ρ T := rfl
noncomputable def notK (w : W) (T : Tp) : Option (W × Tp) := match asB w with
  | some b => some (.d (.bool (!b)), T)
  | none => none
@[simp] theorem ev_notV : fNotV f ρ T = bnd (f ρ T) notK := rfl
@[simp] theorem ev_notK {b : Bool} : notK (.d (.bool b)) T = some (.d (.bool (!b)), T) := rfl
noncomputable def ifEK (f g : FE) (ρ : Rho) (b : Bool) (T1 : Tp) : Option (W × Tp) := if b = true then f ρ T1 else g ρ T1
@[simp] theorem ev_ifE : fIfE c f g ρ T = bnd (c ρ T) (ifEK f g ρ) := rfl
@[simp] theorem ev_ifEK {b : Bool} : ifEK f g ρ b T = if b = true then f ρ T else g ρ T := rfl
noncomputable def chK (o' : PyData → PyData → Option PyData) (h : FE) (ρ : Rho) (w2 w : W) (T : Tp) : Option (W × Tp) := match asB w with
  | some b => if b = true then bnd (h ρ T) fun w3 T4 => op2 o' T4 w2 w3 else some (.d (.bool false), T)
  | none => none
@[simp] theorem ev_chain {o o' : PyData → PyData → Option PyData} {h : FE} : fChain o o' f g h ρ T = bnd (f ρ T) fun w1 T1 => bnd (g ρ T1) fun w2 T2 => bnd (op2 o T2 w1 w2) (chK o' h ρ w2) := rfl
@[simp] theorem ev_chK {o' : PyData → PyData → Option PyData} {h : FE} {b : Bool} : chK o' h ρ w (.d (.bool b)) T = if b = true then bnd (h ρ T) fun w3 T4 => op2 o' T4 w w3 else some (.d (.bool false), T) := rfl
@[simp] theorem ev_nil : fNil ρ T = some ([], T) := rfl
noncomputable def consK (a : FA) (ρ : Rho) (w : W) (T1 : Tp) : Option (List W × Tp) := bnd (a ρ T1) fun ws T2 => some (w :: ws, T2)
@[simp] theorem ev_cons : fCons f a ρ T = bnd (f ρ T) (consK a ρ) := rfl
@[simp] theorem ev_consK : consK a ρ w T = bnd (a ρ T) fun ws T2 => some (w :: ws, T2) := rfl
@[simp] theorem ev_views0 : views T [] = some [] := rfl
noncomputable def consO (x : PyData) (o : Option (List PyData)) : Option (List PyData) := match o with
  | some xs => some (x :: xs)
  | none => none
@[simp] theorem ev_consO {xs : List PyData} : consO x (some xs) = some (x :: xs) := rfl
@[simp] theorem ev_views {r : List W} : views T (.d x :: r) = consO x (views T r) := rfl
@[simp] theorem ev_viewsL {xs : List PyData} {r : List W} : views T (.loc (.list xs) :: r) = consO (.list xs) (views T r) := rfl
@[simp] theorem ev_datas0 : datas [] = some [] := rfl
@[simp] theorem ev_datas {r : List W} : datas (.d x :: r) = consO x (datas r) := rfl
noncomputable def sqK (mk : List PyData → PyData) (T : Tp) : Option (List PyData) → Option (W × Tp)
  | some xs => if xs.length ≤ 1000 then some (.d (mk xs), T) else none
  | none => none
@[simp] theorem ev_seqD {mk : List PyData → PyData} : fSeqD mk a ρ T = bnd (a ρ T) fun ws T1 => sqK mk T1 (datas ws) := rfl
@[simp] theorem ev_sqK {mk : List PyData → PyData} {xs : List PyData} : sqK mk T (some xs) = if xs.length ≤ 1000 then some (.d (mk xs), T) else none := rfl
noncomputable def cbK (o : List PyData → Option PyData) (T : Tp) (v : Option (List PyData)) : Option (W × Tp) := match v with
  | some xs => (match o xs with
    | some d => some (.d d, T)
    | none => none)
  | none => none
@[simp] theorem ev_CB {o : List PyData → Option PyData} : fCB o a ρ T = bnd (a ρ T) fun ws T1 => cbK o T1 (views T1 ws) := rfl
@[simp] theorem ev_cbK {o : List PyData → Option PyData} {xs : List PyData} : cbK o T (some xs) = mkD T (o xs) := rfl
@[simp] theorem ev_call {m : FnM} : fCall m a ρ T = bnd (a ρ T) fun ws T1 => bnd (m ws T1) fun x T2 => some (.d x, T2) := rfl
@[simp] theorem ev_comp {it : FI} : fComp it c f ρ T = bnd (it ρ T) fun ds T1 => bnd (compL c f ρ ds T1) fun ys T2 => some (.d (.list ys), T2) := rfl
noncomputable def itK (T : Tp) (o : Option (List PyData)) : Option (List PyData × Tp) := match o with
  | some xs => some (xs, T)
  | none => none
noncomputable def itW : W → Tp → Option (List PyData × Tp) := fun w T1 => match w with
  | .d x => (match itemsD x with
    | some xs => some (xs, T1)
    | none => none)
  | _ => none
@[simp] theorem ev_iter : fIter f ρ T = bnd (f ρ T) itW := rfl
@[simp] theorem ev_itW : itW (.d x) T = itK T (itemsD x) := rfl
@[simp] theorem ev_itK {xs : List PyData} : itK T (some xs) = some (xs, T) := rfl
@[simp] theorem ev_itemsL {xs : List PyData} : itemsD (.list xs) = some xs := rfl
@[simp] theorem ev_itemsD {ds : List (PyData × PyData)} : itemsD (.dict ds) = some (ds.map (·.1)) := rfl
@[simp] theorem ev_itemsT {xs : List PyData} : itemsD (.tuple xs) = some xs := rfl
@[simp] theorem ev_itemsS {z : Str} : itemsD (.str z) = if z.length ≤ sizeLine then some (signs z) else none := rfl
noncomputable def rngK : W → Tp → Option (List PyData × Tp) := fun w T1 => match w with
  | .d (.int j) => if rngOk j = true then some (numsD 0 j.toNat, T1) else none
  | _ => none
@[simp] theorem ev_rng1 : fRng1 f ρ T = bnd (f ρ T) rngK := rfl
@[simp] theorem ev_rngK {j : Int} : rngK (.d (.int j)) T = if rngOk j = true then some (numsD 0 j.toNat, T) else none := rfl
@[simp] theorem ev_for {i : Nat} {it : FI} : fFor i it s ρ T = bnd (it ρ T) fun ds T1 => forL i s ds ρ T1 := rfl
@[simp] theorem ev_sub {i j : Int} : subD (.int i) (.int j) = some (.int (i - j)) := rfl
@[simp] theorem ev_mod {i j : Int} : modD (.int i) (.int j) = if 0 < j then some (.int (i % j)) else none := rfl
@[simp] theorem ev_fdiv {i j : Int} : fdivD (.int i) (.int j) = if 0 < j ∧ j < 1073741824 then some (.int (i / j)) else none := rfl
@[simp] theorem ev_pow {i j : Int} : powD (.int i) (.int j) = if 0 ≤ j ∧ j ≤ 1000000 ∧ i.natAbs < 2 ^ 64 then some (.int (i ^ j.toNat)) else none := rfl
@[simp] theorem ev_lt {i j : Int} : ltD (.int i) (.int j) = some (.bool (decide (i < j))) := rfl
@[simp] theorem ev_le {i j : Int} : leD (.int i) (.int j) = some (.bool (decide (i ≤ j))) := rfl
@[simp] theorem ev_gt {i j : Int} : gtD (.int i) (.int j) = some (.bool (decide (j < i))) := rfl
@[simp] theorem ev_ge {i j : Int} : geD (.int i) (.int j) = some (.bool (decide (j ≤ i))) := rfl
@[simp] theorem ev_addI {i j : Int} : addD (.int i) (.int j) = some (.int (i + j)) := rfl
@[simp] theorem ev_addS {u v : Str} : addD (.str u) (.str v) = if u.length + v.length ≤ sizeLine then some (.str (u ++ v)) else none := rfl
@[simp] theorem ev_addT {u v : List PyData} : addD (.tuple u) (.tuple v) = if u.length + v.length ≤ sizeLine then some (.tuple (u ++ v)) else none := rfl
@[simp] theorem ev_addL {u v : List PyData} : addD (.list u) (.list v) = if u.length + v.length ≤ sizeLine then some (.list (u ++ v)) else none := rfl
@[simp] theorem ev_mulI {i j : Int} : mulD (.int i) (.int j) = if (-(2 ^ 64) < i ∧ i < 2 ^ 64) ∨ (-(2 ^ 64) < j ∧ j < 2 ^ 64) then some (.int (i * j)) else none := rfl
@[simp] theorem ev_mulS {z : Str} {k : Int} : mulD (.str z) (.int k) = if 0 ≤ k ∧ k ≤ 2000 ∧ z.length ≤ 1000 then some (.str (Txt.mul z k)) else none := rfl
@[simp] theorem ev_mulT {xs : List PyData} {k : Int} : mulD (.tuple xs) (.int k) = if 2 ≤ k ∧ k ≤ 1000 ∧ xs.isEmpty = false ∧ xs.length ≤ 1000 then some (.tuple (List.replicate k.toNat xs).flatten) else none := rfl
@[simp] theorem ev_eqI {i j : Int} : eqD (.int i) (.int j) = some (.bool (decide (i = j))) := rfl
@[simp] theorem ev_eqS {i j : Str} : eqD (.str i) (.str j) = some (.bool (decide (i = j))) := rfl
@[simp] theorem ev_eqB {i j : Bool} : eqD (.bool i) (.bool j) = some (.bool (decide (i = j))) := rfl
@[simp] theorem ev_neI {i j : Int} : neD (.int i) (.int j) = some (.bool (!decide (i = j))) := rfl
@[simp] theorem ev_neS {i j : Str} : neD (.str i) (.str j) = some (.bool (!decide (i = j))) := rfl
@[simp] theorem ev_neB {i j : Bool} : neD (.bool i) (.bool j) = some (.bool (!decide (i = j))) := rfl
@[simp] theorem ev_is : isD x .none = some (.bool (isNone x)) := by cases x <;> rfl
@[simp] theorem ev_isnot {i j : Bool} : isNotD (.bool i) (.bool j) = some (.bool (i != j)) := rfl
@[simp] theorem ev_neg {i : Int} : negD (.int i) = some (.int (-i)) := rfl
@[simp] theorem ev_isi {k : Kd} : isiD k x = some (.bool (isiK (kd x) k)) := rfl
@[simp] theorem ev_ixL {xs : List PyData} {i : Int} : ixD (.list xs) (.int i) = atI xs i := rfl
@[simp] theorem ev_ixT {xs : List PyData} {i : Int} : ixD (.tuple xs) (.int i) = atI xs i := rfl
@[simp] theorem ev_ixS {z : Str} {i : Int} : ixD (.str z) (.int i) = if z.length ≤ sizeLine then (atI z.cps.toList i).map (fun c => .str ⟨#[c]⟩) else none := rfl
@[simp] theorem ev_lenL {xs : List PyData} : lenD [.list xs] = some (.int xs.length) := rfl
@[simp] theorem ev_lenT {xs : List PyData} : lenD [.tuple xs] = some (.int xs.length) := rfl
@[simp] theorem ev_lenS {z : Str} : lenD [.str z] = if z.length ≤ sizeLine then some (.int z.length) else none := rfl
@[simp] theorem ev_abs {i : Int} : absD [.int i] = some (.int (if i < 0 then -i else i)) := rfl
@[simp] theorem ev_max {i j : Int} : maxD2 [.int i, .int j] = some (.int (if j > i then j else i)) := rfl
@[simp] theorem ev_min {i j : Int} : minD2 [.int i, .int j] = some (.int (if j < i then j else i)) := rfl
@[simp] theorem ev_tupleL {xs : List PyData} : tupleD [.list xs] = some (.tuple xs) := rfl
@[simp] theorem ev_tupleT {xs : List PyData} : tupleD [.tuple xs] = some (.tuple xs) := rfl
@[simp] theorem ev_listL {xs : List PyData} : listD [.list xs] = some (.list xs) := rfl
@[simp] theorem ev_listT {xs : List PyData} : listD [.tuple xs] = some (.list xs) := rfl
@[simp] theorem ev_kdI {i : Int} : kd (.int i) = .int := rfl
@[simp] theorem ev_kdB {i : Bool} : kd (.bool i) = .bl := rfl
@[simp] theorem ev_kdS {i : Str} : kd (.str i) = .str := rfl
@[simp] theorem ev_kdT {i : List PyData} : kd (.tuple i) = .tup := rfl
@[simp] theorem ev_kdL {i : List PyData} : kd (.list i) = .lst := rfl
@[simp] theorem ev_kdD {i : List (PyData × PyData)} : kd (.dict i) = .dct := rfl
@[simp] theorem ev_kdN : kd .none = .non := rfl
end
theorem at1 {α : Type} {a b c : α} : atI [a, b, c] 1 = some b := rfl
theorem at2 {α : Type} {a b c : α} : atI [a, b, c] 2 = some c := rfl
theorem compL_map {e : FE} {ρ : Rho} {T : Tp} {g : PyData → PyData} : ∀ {ds : List PyData}, (∀ d ∈ ds, e (some (.d d) :: ρ) T = some (.d (g d), T)) → compL fTrue e ρ ds T = some (ds.map g, T)
  | [], _ => rfl
  | d :: r, h => by
    have ih := compL_map (ds := r) fun x hx => h x (List.mem_cons_of_mem _ hx)
    have h0 := h d List.mem_cons_self
    unfold compL
    simp [h0, ih]
theorem boolsD_map {α : Type} (p : α → Bool) : ∀ l : List α, boolsD (l.map fun d => .bool (p d)) = some (l.map p)
  | [] => rfl
  | d :: r => by
    show (boolsD (r.map fun d => .bool (p d))).map (p d :: ·) = _
    rw [boolsD_map p r]
    rfl
theorem intsD_map {α : Type} (p : α → Int) : ∀ l : List α, intsD (l.map fun d => .int (p d)) = some (l.map p)
  | [] => rfl
  | d :: r => by
    show (intsD (r.map fun d => .int (p d))).map (p d :: ·) = _
    rw [intsD_map p r]
    rfl
theorem strsD_map {α : Type} (p : α → Str) : ∀ l : List α, strsD (l.map fun d => .str (p d)) = some (l.map p)
  | [] => rfl
  | d :: r => by
    show (strsD (r.map fun d => .str (p d))).map (p d :: ·) = _
    rw [strsD_map p r]
    rfl
@[simp] theorem ev_all {α : Type} (p : α → Bool) (l : List α) : allD [.list (l.map fun d => .bool (p d))] = some (.bool (l.all p)) := by
  show (boolsD _).map (fun bs => PyData.bool (bs.all id)) = _
  rw [boolsD_map, Option.map_some, List.all_map]
  rfl
@[simp] theorem ev_sum {α : Type} (p : α → Int) (l : List α) : sumD [.list (l.map fun d => .int (p d))] = some (.int (l.map p).sum) := by
  show (intsD _).map (fun bs => PyData.int bs.sum) = _
  rw [intsD_map, Option.map_some]
@[simp] theorem ev_maxd {α : Type} (p : α → Int) (l : List α) (k : Int) : maxdD (.list (l.map fun d => .int (p d))) (.int k) = some (.int (K1.maxD k (l.map p))) := by
  show (intsD _).map (fun bs => PyData.int (K1.maxD k bs)) = _
  rw [intsD_map, Option.map_some]
@[simp] theorem ev_inS {x y : Str} : inD (.str x) (.str y) = some (.bool (hasS y x)) := rfl
end D
namespace D
open PySem PySem.Spec PyProof.Rows L2
section
variable {X : Cx}
theorem mt_starts : MtR X "str.startswith" (fun x vs H Q => ∃ z y : Str, x = .str z ∧ vs = [.str y] ∧ Q (.bl (Txt.startswith z y)) H) := by
  intro pins s σ H x vs v us Q I rx rv h
  obtain ⟨z, y, rfl, rfl, q⟩ := h
  obtain ⟨t, rfl⟩ := rx
  obtain ⟨u, rfl, ru⟩ := vals1 rv
  obtain ⟨t', rfl⟩ := ru
  exact call_gives PySem.F.slot_str_startswith (typeIs_str _ _ _) PySem.F.entry_str_startswith (PySem.F.args_str_startswith_2 _ _) (gives_str_startswith z y t t') ⟨.bl _, H, I, rfl, q⟩
noncomputable def startsD : PyData → PyData → Option PyData
  | .str z, .str y => some (.bool (Txt.startswith z y))
  | _, _ => none
theorem view_str {T : Tp} {w : W} {z : Str} (h : view T w = some (.str z)) : w = .d (.str z) := by
  cases w with
  | d x => cases h; rfl
  | tp k =>
    have h' : (T[k]?).bind rowV = some (PyData.str z) := h
    cases hk : T[k]? with
    | none => rw [hk] at h'; cases h'
    | some xs =>
      rw [hk] at h'
      have e2 : (if isO xs = true then none else some (PyData.list xs)) = some (PyData.str z) := h'
      split at e2 <;> cases e2
  | loc zs => cases zs <;> cases h
theorem de_starts {o e : Expr} {fo fe : FE} {apos cpos : Pos} (ho : DE X o fo) (he : DE X e fe)
    (hbase : attributeBase o "startswith" X.env (eval o X.env) = eval o X.env := by rfl)
    (hfew : ((backTo cpos (starEach [e] X.env)).all (fun x => !x.1) && (backToKw cpos (keywordEach [] X.env)).all (fun x => x.1.isSome)
      && decide (([e] : List Expr).length + ([] : List Keyword).length + (if ([] : List Keyword).isEmpty then 0 else 1) < 30)) = true := by exact few1 rfl)
    (hline : (apos.endLine == cpos.line) = true := by rfl) (hse : starEach [e] X.env = (false, eval e X.env) :: starEach [] X.env := by exact star_cons rfl) (hplain : (backTo cpos (starEach [] X.env)).any (·.1) = false := by exact star_any rfl) :
    DE X (.Call (.Attribute o "startswith" apos) [e] [] cpos) (fBin startsD fo fe) := by
  refine ⟨?_⟩
  refine pe_imp (pe_bm PySem.F.plainAttrs_str PySem.F.slot_str_startswith PySem.F.type_str_startswith mt_starts ho.pe (pa_cons he.pe pa_nil hse) hbase hfew hline hse hplain) fun σ H Q => ?_
  rintro ⟨O, ts, ρ, T, w, T', hc, re, e, q⟩
  obtain ⟨w1, T1, e1, e⟩ := bnd_of e
  obtain ⟨w2, T2, e2, e⟩ := bnd_of e
  obtain ⟨x, y, d, h1, h2, h3, rfl, rfl⟩ := op2_of e
  unfold startsD at h3
  split at h3
  · rename_i z y
    cases h3
    have ew := view_str h1
    subst ew
    refine ⟨O, ts, ρ, T, _, T1, hc, re, e1, fun v1 H1 s1 hc1 r1 => ?_⟩
    cases (show Rep X.K O H1 v1 _ from r1)
    refine ⟨rfl, O, ts, ρ, T1, w2, T', hc1, re.mono hc s1, e2, fun v2 H2 s2 hc2 r2 => ?_⟩
    cases (hc2.view r2 h2).str
    exact ⟨z, _, rfl, rfl, q _ H2 (s1.trans s2) hc2 (.bl _)⟩
  · cases h3
theorem call_intS : CallR X (.type "int") (fun xs H Q => ∃ x n, xs = [.str x] ∧ PySem.intText? x = some n ∧ x.length ≤ 640 ∧ Q (.int n) H) := by
  intro pins s σ H xs us Q I r h
  obtain ⟨x, n, rfl, hn, hl, q⟩ := h
  obtain ⟨u, rfl, ru⟩ := vals1 r
  obtain ⟨t, rfl⟩ := ru
  exact PySem.W.KIN.call_text hn hl ⟨.int n, H, I.tok _, ⟨_, rfl⟩, q⟩
noncomputable def intD : List PyData → Option PyData
  | [.int i] => some (.int i)
  | [.bool b] => some (.int (if b then 1 else 0))
  | [.str x] => if x.length ≤ 640 then (PySem.intText? x).map .int else none
  | _ => none
theorem c_int : CallD X (.type "int") intD := ⟨_, call_int1.or call_intS, fun O ts H T vs xs d Q hc h e q => by
  unfold intD at e
  split at e
  · cases e
    obtain ⟨v, rfl, g⟩ := vws1 h
    cases g.int
    exact .inl (.inl ⟨_, rfl, q _ H (.refl _ _) hc (.int _)⟩)
  · cases e
    obtain ⟨v, rfl, g⟩ := vws1 h
    cases g.bl
    exact .inl (.inr ⟨_, rfl, q _ H (.refl _ _) hc (.int _)⟩)
  · split at e
    · rename_i hz
      obtain ⟨n, e1, rfl⟩ := Option.map_eq_some_iff.mp e
      obtain ⟨v, rfl, g⟩ := vws1 h
      cases g.str
      exact .inr ⟨_, n, rfl, e1, hz, q _ H (.refl _ _) hc (.int _)⟩
    · cases e
  · cases e⟩
noncomputable def revD : PyData → Option PyData
  | .tuple xs => some (.tuple xs.reverse)
  | _ => none
end
@[simp] theorem ev_starts {z y : Str} : startsD (.str z) (.str y) = some (.bool (Txt.startswith z y)) := rfl
@[simp] theorem ev_intS {x : Str} : intD [.str x] = if x.length ≤ 640 then (PySem.intText? x).map .int else none := rfl
@[simp] theorem ev_intI {i : Int} : intD [.int i] = some (.int i) := rfl
@[simp] theorem ev_intB {b : Bool} : intD [.bool b] = some (.int (if b then 1 else 0)) := rfl
@[simp] theorem ev_rev {xs : List PyData} : revD (.tuple xs) = some (.tuple xs.reverse) := rfl
end D
namespace D
open PySem PySem.Spec PyProof.Rows L2
noncomputable def neG (x y : PyData) : Option PyData := if SeqAt.shaped x = true ∧ SeqAt.shaped y = true then some (.bool (!PyData.eqv x y)) else none
section
variable {X : Cx}
theorem Vw.reads {pins : List (Addr × Obj)} {σ : L2.St} {H : Hp} {s : Shared} {O : Addr → Prop} {v : V} {d : PyData} {u : Value} (I : Inv X pins σ H s) (h : Vw X.K O H v d) (r : RelV v u) : ∃ as, Reads s.heap u d as := by
  cases h with
  | rep h => obtain ⟨as, rd, _⟩ := h.reads I r; exact ⟨as, rd⟩
  | raw h hs =>
    cases r
    obtain ⟨its, rv, pl, _⟩ := I.list (SqL.of h)
    obtain ⟨o, n, e, c, _, dd⟩ := pl
    obtain ⟨as, rd, _⟩ := hs.reads I rv
    exact ⟨_, .list e c dd (by simpa using rd)⟩
  | rawD h rk =>
    cases r
    obtain ⟨z, y, vs, kv, o, es, ep, e, ed, dd, _, ek, _⟩ := (show ObjOk X.prog X.w H s.heap _ (.dK _) from I.hok _ _ h)
    obtain ⟨bs, q1, q2, f⟩ := RepK.reads I rk kv ek
    exact ⟨_, .dict (as := []) (bs := bs) e ed.1 dd q1 q2⟩
theorem op_neG {k : Nat} (hr : Room k X.A) : OpR X (compareOp .NotEq) (fun x y H Q => ∃ O d1 d2, Vw X.K O H x d1 ∧ Vw X.K O H y d2 ∧ SeqAt.shaped d1 = true ∧ SeqAt.shaped d2 = true ∧ Q (.bl (!PyData.eqv d1 d2)) H) := by
  intro pins s σ H x y v u Q I rx ry h
  obtain ⟨O, d1, d2, h1, h2, s1, s2, q⟩ := h
  obtain ⟨as, r1⟩ := h1.reads I rx
  obtain ⟨bs, r2⟩ := h2.reads I ry
  exact SeqAt.compareNe_shaped r1 r2 s1 s2 (by have := hr.un; omega) ⟨.bl _, H, I, rfl, q⟩
theorem o_neG {k : Nat} (hr : Room k X.A) : OpD X (compareOp .NotEq) neG := ⟨_, op_neG hr, fun O ts H T v1 v2 x y d Q hc h1 h2 e q => by
  unfold neG at e
  split at e
  · rename_i h
    cases e
    exact ⟨O, x, y, h1, h2, h.1, h.2, q _ H (.refl _ _) hc (.bl _)⟩
  · cases e⟩
open Classical in
noncomputable def eqBy (h : Heap) (x : PyData) (v : Value) : Bool := if e : ∃ p : PyData × List Addr, Reads h v p.1 p.2 then PyData.eqv e.choose.1 x else false
theorem eqBy_of {h : Heap} {x d : PyData} {v : Value} {as : List Addr} (r : Reads h v d as) : eqBy h x v = PyData.eqv d x := by
  have e : ∃ p : PyData × List Addr, Reads h v p.1 p.2 := ⟨(d, as), r⟩
  unfold eqBy
  rw [dif_pos e]
  have := (PySem.Reads.unique e.choose_spec d as r).1
  rw [this]
theorem eqBy_any {h : Heap} {x : PyData} : ∀ {vs : List Value} {ds : List PyData} {as : List Addr}, ReadsAll h vs ds as → vs.any (eqBy h x) = ds.any fun d => PyData.eqv d x
  | _, _, _, .nil => rfl
  | _, _, _, .cons r rs => by rw [List.any_cons, List.any_cons, eqBy_of r, eqBy_any rs]
theorem readsAll_mem {h : Heap} : ∀ {vs : List Value} {ds : List PyData} {as : List Addr} {v : Value}, ReadsAll h vs ds as → v ∈ vs → ∃ d bs, d ∈ ds ∧ Reads h v d bs
  | _, _, _, _, .cons r rs, hm => by
    rcases List.mem_cons.mp hm with z | z
    · subst z; exact ⟨_, _, List.mem_cons_self, r⟩
    · obtain ⟨d, bs, h1, h2⟩ := readsAll_mem rs z
      exact ⟨d, bs, List.mem_cons_of_mem _ h1, h2⟩
end
end D
namespace D
open PySem PySem.Spec PyProof.Rows L2
section
variable {X : Cx}
variable {pos : Pos} {e : Expr} {fe : FE}
end
end D
namespace D
open PySem PySem.Spec PyProof.Rows L2
section
variable {X : Cx} {pos : Pos} {e : Expr} {f : FE} {x : Str} {p : Pos} {B : List (Str × Int)}
end
end D
namespace D
open PySem PySem.Spec PyProof.Rows L2
theorem de_call0 {X : Cx} {name : Str} {k : Nat} {m : FnM} {p pos : Pos} (F : Fn X.prog X.w X.K X.mg X.base name ([] : List Str) k (spM X.K (List.length ([] : List Str)) m)) (hr : Room k X.A) (hg : Gl X name) (hdb : (name == ("__debug__" : Str)) = false := by decide) : DE X (.Call (.Name name p) [] [] pos) (fCall m fNil) := by
  obtain ⟨f, fd, h1, h2, h3, h4⟩ := F.ex
  refine ⟨?_⟩
  refine pe_imp (pe_call0 h1 hr hg h4 h3 h2 .nil pass0 hdb) fun σ H Q => ?_
  rintro ⟨O, ts, ρ, T, w, T', hc, re, e, q⟩
  obtain ⟨ws, T1, e1, e⟩ := bnd_of e
  cases e1
  obtain ⟨x, T2, e2, e⟩ := bnd_of e
  cases e
  exact ⟨O, ts, T, [], x, _, hc, .nil, rfl, e2, fun v H2 s2 hc2 r2 => q v H2 s2 hc2 r2⟩
end D
namespace L2
open PySem PySem.Spec PyProof.Rows
open K1 (maxFrom maxD)
section
variable {prog : Program} {w : World} {A : Around} {R : Result → Shared → Prop} {it S : Addr} {fp wr : List Addr} {P : Nat → Value → Prop} {St : Nat → Heap → Prop} {ns : List Int} {kw : List (Str × Value)}
end
section
variable {X : Cx}
end
end L2
namespace D
open PySem PySem.Spec PyProof.Rows L2
section
variable {X : Cx} {pos : Pos} {e : Expr} {f : FE} {x : Str} {p : Pos}
variable {B : List (Str × Int)}
theorem reps_strs {K : PySem.W.Frag} {O : Addr → Prop} {H : Hp} : ∀ ss : List Str, Reps K O H (ss.map V.str) (ss.map PyData.str)
  | [] => .nil
  | x :: r => .cons (.str x) (reps_strs r)
end
end D
namespace D
open PySem PySem.Spec PyProof.Rows L2
mutual
noncomputable def tupB : PyData → Bool
  | .tuple ds => tupBs ds
  | .list _ => false
  | .dict _ => false
  | _ => true
noncomputable def tupBs : List PyData → Bool
  | [] => true
  | d :: r => tupB d && tupBs r
end
section
variable {K : PySem.W.Frag} {O : Addr → Prop} {H : Hp}
theorem TupAt.own (hm : ∀ b, O b → Mut (H b)) {a : Addr} {vs : List V} (t : TupAt K (fun _ => False) H a vs) : TupAt K O H a vs := by
  rcases t with ⟨_, t⟩ | t
  · refine .inl ⟨fun z => ?_, t⟩
    rcases hm a z with ⟨us, e⟩ | ⟨us, e⟩ | ⟨C, dx, us, e⟩ <;> rcases t with t | ⟨o, t⟩ <;> (rw [e] at t; cases t)
  · exact .inr t
mutual
theorem Rep.own (hm : ∀ b, O b → Mut (H b)) : ∀ {v : V} {d : PyData}, Rep K (fun _ => False) H v d → tupB d = true → Rep K O H v d
  | _, _, .non, _ => .non
  | _, _, .bl b, _ => .bl b
  | _, _, .int i, _ => .int i
  | _, _, .str x, _ => .str x
  | _, _, .tup t r, h => .tup (t.own hm) (Reps.own hm r (by simpa [tupB] using h))
  | _, _, .lst t r, h => by simp [tupB] at h
  | _, _, .dct n t r, h => by simp [tupB] at h
theorem Reps.own (hm : ∀ b, O b → Mut (H b)) : ∀ {vs : List V} {ds : List PyData}, Reps K (fun _ => False) H vs ds → tupBs ds = true → Reps K O H vs ds
  | _, _, .nil, _ => .nil
  | _, _, .cons (d := d) (ds := ds) r t, h => by
    have h' : (tupB d && tupBs ds) = true := by simpa [tupBs] using h
    rw [Bool.and_eq_true] at h'
    exact .cons (Rep.own hm r h'.1) (Reps.own hm t h'.2)
end
end
noncomputable def noTp : List W → Bool
  | [] => true
  | .tp _ :: _ => false
  | .loc (.dict _) :: _ => false
  | _ :: r => noTp r
theorem lent {K : PySem.W.Frag} {O : Addr → Prop} {ts : List Addr} {H : Hp} : ∀ {vs : List V} {ws : List W}, RepWs K O ts H vs ws → noTp ws = true → RepWs K (fun _ => False) [] H vs (ws.map frzW)
  | _, [], .nil, _ => .nil
  | _, .d x :: r, .cons h t, e => .cons (show Rep K (fun _ => False) H _ x from Rep.mono (fun a o n e => ⟨fun z => z, e⟩) h) (lent t e)
  | _, .tp _ :: _, .cons _ _, e => by cases e
  | _, .loc x :: r, .cons h t, e => by
    have le : Le O H (fun _ => False) H := fun a o n e => ⟨fun z => z, e⟩
    obtain ⟨a, rfl, _, _, h3⟩ := h
    cases x with
    | list xs => obtain ⟨vs, h1, h2⟩ := h3; exact .cons (.lst (.inl ⟨fun z => z, .inl h1⟩) (h2.mono le)) (lent t e)
    | dict xs => cases e
    | _ => cases h3
noncomputable def fCallF (m : FnM) (g : FA) : FE := fun ρ T => bnd (g ρ T) fun ws T1 => if noTp ws = true then (match m (ws.map frzW) [] with
  | some (x, _) => if tupB x = true then some (.d x, T1) else none
  | none => none) else none
theorem de_callF {X : Cx} {name : Str} {ps : List Str} {k : Nat} {m : FnM} {e : Expr} {es : List Expr} {g : FA} {p pos : Pos} (F : Fn X.prog X.w X.K X.mg X.base name ps k (spM X.K ps.length m)) (hr : Room k X.A) (hg : Gl X name) (ha : DA X (e :: es) g) (hl : LenA g ps.length) (hdb : (name == ("__debug__" : Str)) = false := by decide)
    (he : starEach (e :: es) X.env = (false, eval e X.env) :: starEach es X.env := by exact star_cons rfl) (hpl : (backTo pos (starEach es X.env)).any (·.1) = false := by exact star_any rfl) : DE X (.Call (.Name name p) (e :: es) [] pos) (fCallF m g) := by
  refine ⟨?_⟩
  refine pe_imp (pe_fn F hr hg ha.pe hdb he hpl) fun σ H Q => ?_
  rintro ⟨O, ts, ρ, T, w, T', hc, re, e, q⟩
  obtain ⟨ws, T1, e1, e⟩ := bnd_of e
  split at e
  · rename_i hn
    split at e
    · rename_i x T2 e2
      split at e
      · rename_i hx
        cases e
        refine ⟨O, ts, ρ, T, ws, _, hc, re, e1, fun vs H1 s1 hc1 r1 => ?_⟩
        refine ⟨fun _ => False, [], [], ws.map frzW, x, T2, ⟨fun b hb => (by cases hb), fun b hb => hb.elim, List.nodup_nil, rfl, fun i a xs e1 _ => by simp at e1⟩, by rw [List.append_nil]; exact lent r1 hn, by rw [List.length_map]; exact hl _ _ _ _ e1, e2, fun v H2 s2 hc2 r2 => ?_⟩
        have s2' : SameX ts H1 H2 := fun b o _ q => s2 b o (by simp) q
        have hm : ∀ b, O b → Mut (H2 b) := fun b hb => by
          exact (hc1.trk b hb).to fun u z => s2 b _ (by simp) z
        have hc2' := hc1.step s2' fun b hb => by
          obtain ⟨u, z⟩ := (hc1.trk b (hc1.own b hb)).ex
          rw [z]; exact s2 b _ (by simp) z
        exact q v H2 (s1.trans s2') hc2' (Rep.own hm r2 hx)
      · cases e
    · cases e
  · cases e
theorem DGet.rd {H : Hp} {a : Addr} {kvs : List (Key × V)} {k : Key} (e : Rd H a (.dK kvs)) : DGet H a (kV k) (valV kvs k) := .inl ⟨kvs, k, e, rfl, rfl⟩
section
variable {X : Cx} {pos : Pos} {k : Nat}
end
section
variable {K : PySem.W.Frag} {O₀ : Addr → Prop} {H₀ : Hp} {F : List ((Addr → Prop) × Hp)} {ts : List Addr} {O : Addr → Prop} {H H1 : Hp} {σ : L2.St} {ρ : Rho} {T T1 : Tp}
theorem RS.take {i : Nat} {p : Addr} {o : HO} {y : PyData} (r : RS K O₀ H₀ F ts O H σ ρ T) (oa : O p) (nt : p ∉ ts) (h0 : H₀ p = none ∧ ¬ O₀ p) (nh : ∀ (j : Nat) (ys : PyData), ρ[j]? = some (some (W.loc ys)) → σ[j]? = some (some (V.ref p)) → False) (hm : Mut (some o)) (rv : Le O H O (upd H p o) → OwnAt K O (upd H p o) p y) :
    RS K O₀ H₀ F ts O (upd H p o) (σ.set i (some (.ref p))) (ρ.set i (some (.loc y))) T := by
  have le : Le O H O (upd H p o) := fun b o n e => ⟨n, by rw [upd_ne (show b ≠ p from fun z => n (by rw [z]; exact oa))]; exact e⟩
  have at_i : ∀ {w : W}, (ρ.set i (some w))[i]? = some (some w) ∨ (ρ.set i (some w))[i]? = none := fun {w} => by
    by_cases hl : i < ρ.length
    · exact .inl (List.getElem?_set_self hl)
    · exact .inr (List.getElem?_eq_none (by simp; omega))
  refine ⟨⟨r.hc.own, fun b hb => ?_, r.hc.nd, r.hc.len, fun j a ys e1 e2 => ?_⟩, fun j w e => ?_, r.sub, r.ots, fun b o n e => ?_, fun j ys a e1 e2 => ?_, fun j k ys zs v e1 e2 e3 e4 => ?_, fun f hf => (r.frs f hf).trans le, by simp [r.len]⟩
  · by_cases z : b = p
    · subst z; rw [upd_same]; exact hm
    · rw [upd_ne z]; exact r.hc.trk b hb
  · exact (r.hc.tape j a ys e1 e2).mono (fun o' h1 => by rw [upd_ne (show a ≠ p from fun z => nt (by rw [← z]; exact List.mem_of_getElem? e1))]; exact h1) le
  · by_cases z : i = j
    · subst z
      have hl : i < ρ.length := by
        have := (List.getElem?_eq_some_iff.mp e).1
        simpa using this
      rw [List.getElem?_set_self hl] at e
      cases e
      exact ⟨.ref p, by rw [List.getElem?_set_self (by rw [r.len]; exact hl)], p, rfl, oa, nt, rv le⟩
    · rw [List.getElem?_set_ne z] at e
      obtain ⟨x, h1, h2⟩ := r.re j w e
      refine ⟨x, by rw [List.getElem?_set_ne z]; exact h1, ?_⟩
      cases w with
      | d x => exact Rep.mono le h2
      | tp k => exact h2
      | loc zs =>
        obtain ⟨b, eb, k1, k2, k3⟩ := h2
        have n : b ≠ p := fun q => nh j zs e (by rw [h1, eb, q])
        exact ⟨b, eb, k1, k2, k3.mono (fun o' q => by rw [upd_ne n]; exact q) le⟩
  · have := r.same b o n e
    rw [upd_ne (show b ≠ p from fun z => by rw [z, h0.1] at e; cases e)]
    exact this
  · by_cases z : i = j
    · subst z
      have hl : i < ρ.length := by
        have := (List.getElem?_eq_some_iff.mp e1).1
        simpa using this
      rw [List.getElem?_set_self (by rw [r.len]; exact hl)] at e2
      cases e2
      exact h0
    · rw [List.getElem?_set_ne z] at e1 e2
      exact r.fresh j ys a e1 e2
  · by_cases z : i = j
    · by_cases z' : i = k
      · rw [← z, ← z']
      · exfalso
        subst z
        have hl : i < ρ.length := by
          have := (List.getElem?_eq_some_iff.mp e1).1
          simpa using this
        rw [List.getElem?_set_self (by rw [r.len]; exact hl)] at e3
        cases e3
        rw [List.getElem?_set_ne z'] at e2 e4
        exact nh k zs e2 e4
    · by_cases z' : i = k
      · exfalso
        subst z'
        have hl : i < ρ.length := by
          have := (List.getElem?_eq_some_iff.mp e2).1
          simpa using this
        rw [List.getElem?_set_self (by rw [r.len]; exact hl)] at e4
        cases e4
        rw [List.getElem?_set_ne z] at e1 e3
        exact nh j ys e1 e3
      · rw [List.getElem?_set_ne z] at e1 e3
        rw [List.getElem?_set_ne z'] at e2 e4
        exact r.dist j k ys zs v e1 e2 e3 e4
end
section
variable {X : Cx} {pos : Pos}
end
end D
namespace D
open PySem PySem.Spec PyProof.Rows L2
section
variable {X : Cx} {pos : Pos} {e : Expr} {f : FE} {x : Str} {p : Pos} {B : List (Str × Str)}
end
end D
namespace D
open PySem PySem.Spec PyProof.Rows L2
noncomputable def lookP (f : Str) : List PyData → Option PyData
  | .tuple [.str g, y] :: r => if g = f then some y else lookP f r
  | _ => none
noncomputable def objR (C : Addr) : List PyData → Option (List PyData)
  | .dict [(.none, .int c)] :: ps => if c = (C : Int) then some ps else none
  | _ => none
noncomputable def objAt (C : Addr) (T : Tp) (n : Nat) : Option (List PyData) := (T[n]?).bind (objR C)
section
variable {K : PySem.W.Frag} {O : Addr → Prop} {ts : List Addr} {H H' : Hp} {T : Tp} {n : Nat} {a C : Addr} {ps : List PyData}
theorem objR_of {xs : List PyData} (h : objR C xs = some ps) : xs = tagO C :: ps := by
  unfold objR at h
  split at h
  · split at h
    · rename_i hc
      cases h
      rw [hc]
      rfl
    · cases h
  · cases h
theorem objAt_of (h : objAt C T n = some ps) : T[n]? = some (tagO C :: ps) := by
  unfold objAt at h
  cases hT : T[n]? with
  | none => rw [hT] at h; cases h
  | some xs =>
    rw [hT] at h
    have h' : objR C xs = some ps := h
    rw [objR_of h']
theorem HC.obj (c : HC K O ts H T) (e : ts[n]? = some a) (h : objAt C T n = some ps) : ∃ dx fs fd, H a = some (.ins C dx fs) ∧ ps = fd.map pairF ∧ RepF K O H fs fd := by
  rcases c.tape n a _ e (objAt_of h) with ⟨no, _⟩ | ⟨C', dx, fs, fd, h1, h2, h3⟩
  · cases no
  · injection h2 with e1 e2
    have e3 : (C : Int) = (C' : Int) := by
      have z : PyData.dict [(.none, .int (C : Int))] = .dict [(.none, .int (C' : Int))] := e1
      injection z with z
      injection z with z _
      injection z with _ z
      injection z
    have e4 : C = C' := by exact Int.ofNat.inj e3
    subst e4
    exact ⟨dx, fs, fd, h1, e2, h3⟩
theorem RepF.look {f : Str} {fs : List (Str × V)} {fd : List (Str × PyData)} (r : RepF K O H fs fd) : (lookP f (fd.map pairF) = none ∧ fs.lookup f = none) ∨ ∃ v y, lookP f (fd.map pairF) = some y ∧ fs.lookup f = some v ∧ Rep K O H v y := by
  induction r with
  | nil => exact .inl ⟨rfl, rfl⟩
  | cons r _ ih =>
    rename_i g v d vs ds _
    by_cases hg : g = f
    · subst hg
      refine .inr ⟨v, d, ?_, ?_, r⟩
      · show (if g = g then some d else _) = _
        rw [if_pos rfl]
      · rw [List.lookup_cons, beq_self_eq_true]
    · have e1 : lookP f (((g, d) :: ds).map pairF) = lookP f (ds.map pairF) := if_neg hg
      have e2 : List.lookup f ((g, v) :: vs) = List.lookup f vs := by
        rw [List.lookup_cons, show (f == g) = false from beq_false_of_ne (Ne.symm hg)]
      rw [e1, e2]
      exact ih
noncomputable def putFD (f : Str) (y : PyData) : List (Str × PyData) → List (Str × PyData)
  | [] => [(f, y)]
  | (g, x) :: r => if g = f then (g, y) :: r else (g, x) :: putFD f y r
theorem RepF.put {f : Str} {v : V} {y : PyData} (ry : Rep K O H v y) {fs : List (Str × V)} {fd : List (Str × PyData)} (r : RepF K O H fs fd) : RepF K O H (putF f v fs) (putFD f y fd) := by
  induction r with
  | nil => exact .cons ry .nil
  | cons r t ih =>
    rename_i g v' d vs ds
    unfold putF putFD
    by_cases hg : g = f
    · rw [if_pos hg, if_pos hg]
      exact .cons ry t
    · rw [if_neg hg, if_neg hg]
      exact .cons r ih
end
section
variable {X : Cx} {C : Addr} {o e : Expr} {f m : Str} {pos pos' apos : Pos} {fo fe : FE}
structure Mth (P : Program) (w : World) (K : PySem.W.Frag) (mg : Str → Option Value) (base : Heap) (C : Addr) (m : Str) (ps : List Str) (k : Nat) (sp : Sp) : Prop where
  ex : ∃ f fd, FnOk P w K mg base CX0 k f fd ps sp ∧ Binds K fd ps [] ∧ Meth K C m f
theorem Mth.mono {P : Program} {w : World} {K : PySem.W.Frag} {mg : Str → Option Value} {base : Heap} {ps : List Str} {k k' : Nat} {sp : Sp} (F : Mth P w K mg base C m ps k sp) (h : k ≤ k') : Mth P w K mg base C m ps k' sp := by
  obtain ⟨f, fd, h1, h2⟩ := F.ex
  exact ⟨f, fd, h1.mono h, h2⟩
variable {ps : List Str} {k : Nat} {mm : FnM} {g : FA} {es : List Expr} {pl : Sem Bool}
noncomputable def fNone : FS := fun _ _ => none
theorem ds_none {st : Stmt} : DS X st fNone := ⟨fun _ _ _ _ _ _ h => by
  obtain ⟨O₀, H₀, F, ts, O, ρ, T, fl, ρ', T', rs, e, q⟩ := h
  cases e⟩
end
end D
namespace D
open PySem PySem.Spec PyProof.Rows L2
section
variable {X : Cx} {C f : Addr} {e : Expr} {fe : FE} {fr : FS} {rest : List Stmt} {cn x : Str} {p pos pos' cpos : Pos} {ps : List Str} {k i : Nat} {m : FnM} {fd : FuncData}
end
end D
namespace L2
open PySem PySem.Spec PyProof.Rows
section
variable {X : Cx}
theorem vals_strs : ∀ (l : List (Str × Tok)), Vals ((l.map (·.1)).map V.str) (strValues l)
  | [] => .nil
  | p :: r => .cons ⟨p.2, rfl⟩ (vals_strs r)
theorem mt_split : MtR X "str.split" (fun x vs H Q => ∃ z y : Str, x = .str z ∧ vs = [.str y] ∧ (y.length == 0) = false ∧ z.length + 2 ≤ sizeLine ∧ ∀ l, H l = none → Q (.ref l) (upd H l (.lst ((Txt.split z y).map V.str)))) := by
  intro pins s σ H x vs v us Q I rx rv h
  obtain ⟨z, y, rfl, rfl, hy, hz, q⟩ := h
  obtain ⟨t, rfl⟩ := rx
  obtain ⟨u, rfl, ru⟩ := vals1 rv
  obtain ⟨t', rfl⟩ := ru
  have np : (Builtin.Str.partsBetween z (Builtin.Str.occurrences z y 0 z.length (z.length + 1)) y.length).length ≤ sizeLine := by
    have o1 := StrLaws.occ_length_le z y 0 z.length (z.length + 1)
    rw [length_partsBetween]; omega
  have fin : ∀ (l : List (Str × Tok)) (k : Nat), l.map (·.1) = Txt.split z y → l.length ≤ sizeLine → EP X pins σ Q (.ref s.heap.objs.size) { s with toks := k, heap := s.heap.push { cls := .type "list", data := .seq (strValues l).toArray } } := fun l k e hl => by
    have hn : ((Txt.split z y).map V.str).length ≤ sizeLine := by rw [← e]; simpa using hl
    refine ⟨.ref s.heap.objs.size, _, I.laid (t' := k) (fun b o w => Heap.get?_push_of_some _ w) (Nat.le_refl _) (show ObjOk X.prog X.w _ _ _ (.lst ((Txt.split z y).map V.str)) from ⟨hn, strValues l, 0, ?_, Heap.get?_push_size _ rfl⟩), rfl, q _ (I.hok.fresh (Nat.le_refl _))⟩
    rw [← e]
    exact vals_strs l
  cases c1 : (decide (z.length < y.length) || decide (Builtin.Str.strKind z < Builtin.Str.strKind y))
  · cases c2 : (Builtin.Str.occurrences z y 0 z.length (z.length + 1)).isEmpty
    · refine call_meets PySem.F.slot_str_split (typeIs_str _ _ _) PySem.F.entry_str_split (PySem.F.args_str_split_2 _ _) (meets_str_split_sep z y t t' c1 hy c2 (by omega) np) ?_
      show wants _ _ _ { s with toks := _, heap := s.heap.push { cls := .type "list", data := .seq (strsFrom s.toks (Builtin.Str.partsBetween z (Builtin.Str.occurrences z y 0 z.length (z.length + 1)) y.length)).toArray } }
      rw [strsFrom_eq]
      have e : (numbered s.toks (Builtin.Str.partsBetween z (Builtin.Str.occurrences z y 0 z.length (z.length + 1)) y.length)).map (·.1) = Txt.split z y := (numbered_texts s.toks (Builtin.Str.partsBetween z (Builtin.Str.occurrences z y 0 z.length (z.length + 1)) y.length)).trans ((if_neg (ne_true_of_eq_false c1)).trans (if_neg (ne_true_of_eq_false c2))).symm
      refine fin (numbered s.toks _) _ e ?_
      have e2 := congrArg List.length (numbered_texts s.toks (Builtin.Str.partsBetween z (Builtin.Str.occurrences z y 0 z.length (z.length + 1)) y.length))
      rw [List.length_map] at e2
      rw [e2]
      exact np
    · exact call_meets PySem.F.slot_str_split (typeIs_str _ _ _) PySem.F.entry_str_split (PySem.F.args_str_split_2 _ _) (meets_str_split_not_found z y t t' c1 hy c2) (fin [(z, t)] s.toks ((if_neg (ne_true_of_eq_false c1)).trans (if_pos c2)).symm (by show 1 ≤ sizeLine; decide))
  · exact call_meets PySem.F.slot_str_split (typeIs_str _ _ _) PySem.F.entry_str_split (PySem.F.args_str_split_2 _ _) (meets_str_split_cannot_occur z y t t' c1) (fin [(z, t)] s.toks (if_pos c1).symm (by show 1 ≤ sizeLine; decide))
end
end L2
namespace D
open PySem PySem.Spec PyProof.Rows L2
section
variable {X : Cx} {pos : Pos}
noncomputable def splitD : PyData → PyData → Option PyData
  | .str z, .str y => if (y.length == 0) = false ∧ z.length + 2 ≤ sizeLine then some (.list ((Txt.split z y).map .str)) else none
  | _, _ => none
theorem de_split {o e : Expr} {fo fe : FE} {apos cpos : Pos} (ho : DE X o fo) (he : DE X e fe)
    (hbase : attributeBase o "split" X.env (eval o X.env) = eval o X.env := by rfl)
    (hfew : ((backTo cpos (starEach [e] X.env)).all (fun x => !x.1) && (backToKw cpos (keywordEach [] X.env)).all (fun x => x.1.isSome)
      && decide (([e] : List Expr).length + ([] : List Keyword).length + (if ([] : List Keyword).isEmpty then 0 else 1) < 30)) = true := by exact few1 rfl)
    (hline : (apos.endLine == cpos.line) = true := by rfl) (hse : starEach [e] X.env = (false, eval e X.env) :: starEach [] X.env := by exact star_cons rfl) (hplain : (backTo cpos (starEach [] X.env)).any (·.1) = false := by exact star_any rfl) :
    DE X (.Call (.Attribute o "split" apos) [e] [] cpos) (fBin splitD fo fe) := by
  refine ⟨?_⟩
  refine pe_imp (pe_bm PySem.F.plainAttrs_str PySem.F.slot_str_split PySem.F.type_str_split mt_split ho.pe (pa_cons he.pe pa_nil hse) hbase hfew hline hse hplain) fun σ H Q => ?_
  rintro ⟨O, ts, ρ, T, w, T', hc, re, e, q⟩
  obtain ⟨w1, T1, e1, e⟩ := bnd_of e
  obtain ⟨w2, T2, e2, e⟩ := bnd_of e
  obtain ⟨x, y, d, h1, h2, h3, rfl, rfl⟩ := op2_of e
  unfold splitD at h3
  split at h3
  · rename_i z y
    split at h3
    · rename_i hz
      cases h3
      cases view_str h1
      refine ⟨O, ts, ρ, T, _, T1, hc, re, e1, fun v1 H1 s1 hc1 r1 => ?_⟩
      cases (show Rep X.K O H1 v1 _ from r1)
      refine ⟨rfl, O, ts, ρ, T1, w2, T', hc1, re.mono hc s1, e2, fun v2 H2 s2 hc2 r2 => ?_⟩
      cases (hc2.view r2 h2).str
      exact ⟨z, y, rfl, rfl, hz.1, hz.2, fun l hl => q _ _ (s1.trans (s2.trans (.new hl _))) (hc2.new hl _) (hc2.newL hl (reps_strs _))⟩
    · cases h3
  · cases h3
noncomputable def setAK (i : Nat) (ρ : Rho) (x y : Option PyData) (T : Tp) : Option ((Fl × Rho) × Tp) := match x, y with
  | some (.list xs), some (.list ys) => if xs.length + ys.length ≤ sizeLine then some ((.nx, ρ.set i (some (.loc (.list (xs ++ ys))))), T) else none
  | _, _ => none
noncomputable def fSetA (i : Nat) (fa fb : FE) : FS := fun ρ T => bnd (fa ρ T) fun w1 T1 => bnd (fb ρ T1) fun w2 T2 => setAK i ρ (view T2 w1) (view T2 w2) T2
theorem ds_setA {i : Nat} {x : Str} {a b : Expr} {fa fb : FE} {pos' bpos : Pos} (hN : X.N.Nodup) (ha : DE X a fa) (hb : DE X b fb) (hi : X.N[i]? = some x := by rfl) (hx : Loc X.env.scope x := by first | exact Or.inl rfl | exact Or.inr rfl) (hs : swapsWith (.BinOp a .Add b bpos) (some (.Name x pos')) pos.line X.env = pure false := by rfl)
    (hf : X.fn x = true ∨ X.env.scope.names.lookup x = some .local := by first | exact .inl rfl | exact .inr rfl | assumption) : DS X (.Assign [.Name x pos'] (.BinOp a .Add b bpos) pos) (fSetA i fa fb) := by
  refine ⟨?_⟩
  refine ps_imp (ps_set hN hi hx (pe_op op_catL ha.pe hb.pe) hs hf) fun D σ H => ?_
  rintro ⟨O₀, H₀, F, ts, O, ρ, T, fl, ρ', T', rs, e, q⟩
  obtain ⟨w1, T1, e1, e⟩ := bnd_of e
  obtain ⟨w2, T2, e2, e⟩ := bnd_of e
  refine ⟨O, ts, ρ, T, w1, T1, rs.hc, rs.re, e1, fun v1 H1 s1 hc1 r1 => ?_⟩
  have rs1 := rs.step s1 hc1
  refine ⟨O, ts, ρ, T1, w2, T2, hc1, rs1.re, e2, fun v2 H2 s2 hc2 r2 => ?_⟩
  have rs2 := rs1.step s2 hc2
  unfold setAK at e
  split at e
  · rename_i xs ys h1 h2
    split at e
    · rename_i hz
      cases e
      obtain ⟨a1, vs, rfl, t1, q1⟩ := (hc2.view (r1.mono hc1 s2) h1).lst
      obtain ⟨b1, us, rfl, t2, q2⟩ := (hc2.view r2 h2).lst
      exact ⟨a1, b1, vs, us, rfl, rfl, t1, t2, by rw [q1.length, q2.length]; exact hz, fun p hp => q _ _ _ (rs2.own hp (q1.append q2))⟩
    · cases e
  · cases e
structure Ini (P : Program) (w : World) (K : PySem.W.Frag) (mg : Str → Option Value) (base : Heap) (C : Addr) (ps : List Str) (k : Nat) (sp : Sp) : Prop where
  ex : ∃ f fd, FnOk P w K mg base CX0 k f fd ps sp ∧ L2.Binds K fd ps [] ∧ Mk K C f
structure DfM (K : PySem.W.Frag) (C : Addr) (name qual : Str) (st : Stmt) : Prop where
  ex : ∃ (f : Addr) (oc : Value) (od an : Option Addr) (sl : Array (Option Value)) (kV dc pm cd ct : Value), PySem.W.findIn K (.ref C) name = some (some (.ref f)) ∧
    K.lookup f = some ⟨oc, od, .func (PySem.W.fnOf name qual (defArgs st) (defBody st) (defScope st) .none kV dc pm an cd ct), sl⟩ ∧ PySem.W.codeIn K cd qual = true ∧ PySem.W.keepIn K (.ref f) = true ∧ PySem.W.isFn K (.ref f) = true
theorem dfm_mk {K : PySem.W.Frag} {C : Addr} {name qual : Str} {st : Stmt} {f : Addr} {oc : Value} {od an : Option Addr} {sl : Array (Option Value)} {kV dc pm cd ct : Value} (a : PySem.W.findIn K (.ref C) name = some (some (.ref f)))
    (l : K.lookup f = some ⟨oc, od, .func (PySem.W.fnOf name qual (defArgs st) (defBody st) (defScope st) .none kV dc pm an cd ct), sl⟩) (c : PySem.W.codeIn K cd qual = true) (k : PySem.W.keepIn K (.ref f) = true) (n : PySem.W.isFn K (.ref f) = true) : DfM K C name qual st :=
  ⟨f, oc, od, an, sl, kV, dc, pm, cd, ct, a, l, c, k, n⟩
end
end D
namespace D
open PySem PySem.Spec PyProof.Rows L2
section
variable {X : Cx} {pos : Pos}
end
section
variable {X : Cx} {pos : Pos}
end
end D
namespace D
open PySem PySem.Spec PyProof.Rows L2
section
variable {X : Cx}
end
end D
namespace D
open PySem PySem.Spec PyProof.Rows L2
section
variable {X : Cx} {pins : List (Addr × Obj)} {σ : L2.St} {H H2 : Hp} {s s2 : Shared}
end
inductive Ln (P : Hp → VK → Prop) : Hp → VK → Prop where
  | done {H : Hp} {Q : VK} : P H Q → Ln P H Q
  | frz {H : Hp} {Q : VK} {a : Addr} {kvs : List (Key × V)} : H a = some (.dK kvs) → (∀ o, Ln P (upd H a (.frz o (.dK kvs))) (fun v H2 => H2 a = some (.frz o (.dK kvs)) ∧ Q v (upd H2 a (.dK kvs)))) → Ln P H Q
section
variable {K : PySem.W.Frag}
theorem TupAt.keep {H H' : Hp} (h : ∀ b o, H b = some o → (∀ ks, o ≠ .dK ks) → (∀ ob ks, o ≠ .frz ob (.dK ks)) → H' b = some o) {a : Addr} {vs : List V} (t : TupAt K (fun _ => False) H a vs) : TupAt K (fun _ => False) H' a vs := by
  rcases t with ⟨n, t | ⟨o, t⟩⟩ | t
  · exact .inl ⟨n, .inl (h _ _ t (fun _ z => nomatch z) (fun _ _ z => nomatch z))⟩
  · exact .inl ⟨n, .inr ⟨o, h _ _ t (fun _ z => nomatch z) (fun _ _ z => nomatch z)⟩⟩
  · exact .inr t
mutual
theorem Rep.keep {H H' : Hp} (h : ∀ b o, H b = some o → (∀ ks, o ≠ .dK ks) → (∀ ob ks, o ≠ .frz ob (.dK ks)) → H' b = some o) : ∀ {v : V} {d : PyData}, Rep K (fun _ => False) H v d → tupB d = true → Rep K (fun _ => False) H' v d
  | _, _, .non, _ => .non
  | _, _, .bl b, _ => .bl b
  | _, _, .int i, _ => .int i
  | _, _, .str x, _ => .str x
  | _, _, .tup t r, e => .tup (t.keep h) (Reps.keep h r (by simpa [tupB] using e))
  | _, _, .lst t r, e => by simp [tupB] at e
  | _, _, .dct n t r, e => by simp [tupB] at e
theorem Reps.keep {H H' : Hp} (h : ∀ b o, H b = some o → (∀ ks, o ≠ .dK ks) → (∀ ob ks, o ≠ .frz ob (.dK ks)) → H' b = some o) : ∀ {vs : List V} {ds : List PyData}, Reps K (fun _ => False) H vs ds → tupBs ds = true → Reps K (fun _ => False) H' vs ds
  | _, _, .nil, _ => .nil
  | _, _, .cons (d := d) (ds := ds) r t, e => by
    have e' : (tupB d && tupBs ds) = true := by simpa [tupBs] using e
    rw [Bool.and_eq_true] at e'
    exact .cons (Rep.keep h r e'.1) (Reps.keep h t e'.2)
end
end
section
variable {K : PySem.W.Frag} {O : Addr → Prop} {ts : List Addr} {H0 H : Hp} {T : Tp} {σ : L2.St} {ρ : Rho}
end
end D
namespace D
open PySem PySem.Spec PyProof.Rows L2
section
variable {X : Cx} {pos : Pos} {e : Expr} {fe : FE}
end
section
variable {K : PySem.W.Frag} {O₀ : Addr → Prop} {H₀ : Hp} {F : List ((Addr → Prop) × Hp)} {ts : List Addr} {O : Addr → Prop} {H : Hp} {σ : L2.St} {ρ : Rho} {T : Tp}
end
section
variable {X : Cx} {pos : Pos} {rest : List Stmt} {fr : FS}
end
end D
namespace D
open PySem PySem.Spec PyProof.Rows L2
end D
namespace D
open PySem PySem.Spec PyProof.Rows L2
section
variable {X : Cx} {pos : Pos}
end
end D
namespace D
open PySem PySem.Spec PyProof.Rows L2
section
variable {X : Cx}
end
theorem fnOk_imp {P : Program} {w : World} {K : PySem.W.Frag} {mg : Str → Option Value} {base : Heap} {CX : CXT} {k : Nat} {f : Addr} {fd : FuncData} {ps : List Str} {sp sp' : Sp} (F : FnOk P w K mg base CX k f fd ps sp) (i : ∀ vs H Q E, sp' vs H Q E → sp vs H Q E) : FnOk P w K mg base CX k f fd ps sp' :=
  ⟨fun vs H Q E h => F.1 vs H Q E (i _ _ _ _ h), fun A outer s H args us vs Q E a b c d h => F.2 A outer s H args us vs Q E a b c d (i _ _ _ _ h)⟩
theorem law_plain {K : PySem.W.Frag} {m : FnM} (hm : ∀ ns : List Int, ns.length ≤ 63 → ∃ T', m [.d (script ns)] [] = some (.bool true, T')) : ∀ vs H Q E, spLaw K vs H Q E → spM K 1 m vs H Q E := by
  intro vs H Q E h
  obtain ⟨a, ns, rfl, hS, hl, q⟩ := h
  obtain ⟨T', e⟩ := hm ns hl
  have ra : LstAt K (fun _ => False) H a (ns.map V.int) := by
    rcases hS with h | h
    · exact .inl ⟨fun z => z, h⟩
    · exact .inr (.inr h)
  refine ⟨fun _ => False, [], [], [.d (script ns)], .bool true, T', ⟨fun b hb => (by cases hb), fun b hb => hb.elim, List.nodup_nil, rfl, fun i a xs e1 _ => by simp at e1⟩, .cons (show Rep K (fun _ => False) H (.ref a) (script ns) from .lst ra (reps_ints ns)) .nil, rfl, e, fun v H' _ _ r => ?_⟩
  cases r
  exact q H'
end D
namespace D
open PySem PySem.Spec PyProof.Rows L2
noncomputable def shrD : PyData → PyData → Option PyData := iop fun i j => if 0 ≤ j then some (.int (i / 2 ^ j.toNat)) else none
theorem o_shr {X : Cx} : OpD X (binaryOp .RShift) shrD := ⟨_, op_shr, snd_rI fun i j d e => by
  have e' : (if 0 ≤ j then some (PyData.int (i / 2 ^ j.toNat)) else none) = some d := e
  split at e'
  · rename_i h
    cases e'
    exact ⟨h, fun O H => .int _⟩
  · cases e'⟩
@[simp] theorem ev_shrI {i j : Int} : shrD (.int i) (.int j) = if 0 ≤ j then some (.int (i / 2 ^ j.toNat)) else none := rfl
end D
namespace D
open PySem PySem.Spec PyProof.Rows L2
section
variable {X : Cx}
theorem mt_joinT : MtR X "str.join" (fun x vs H Q => ∃ (z : Str) (l : Addr) (ys : List Str), x = .str z ∧ vs = [.ref l] ∧ SqT X.K H l (ys.map V.str) ∧ (ys.map (·.length)).sum + ys.length * z.length ≤ 16777216 ∧ Q (.str (Str.join z ys)) H) := by
  intro pins s σ H x vs v us Q I rx rv h
  obtain ⟨z, l, ys, rfl, rfl, hq, hz, q⟩ := h
  obtain ⟨t, rfl⟩ := rx
  obtain ⟨u, rfl, ru⟩ := vals1 rv
  cases ru
  obtain ⟨its, rw', pl, _⟩ := I.tuple hq
  refine join_tuple (ys := ys) pl (by simpa using strsAre_of rw') hz fun t' k => ⟨.str _, H, I.tok _, ⟨t', ?_⟩, q⟩
  show Value.str (Builtin.Str.glued z ys) t' = _
  rw [StrLaws.glued_eq_join]
theorem wstr {K : PySem.W.Frag} {O : Addr → Prop} {ts : List Addr} {H : Hp} {T : Tp} {v : V} {w : W} {z : Str} (r : RepW K O ts H v w) (h : view T w = some (.str z)) : v = .str z := by
  cases w with
  | d x => cases h; cases (show Rep K O H v _ from r); rfl
  | tp k =>
    have h1' : (T[k]?).bind rowV = some (PyData.str z) := h
    cases hk : T[k]? with
    | none => rw [hk] at h1'; cases h1'
    | some xs =>
      rw [hk] at h1'
      have e2 : (if isO xs = true then none else some (PyData.list xs)) = some (PyData.str z) := h1'
      split at e2 <;> cases e2
  | loc zs => cases zs <;> cases h
noncomputable def joinA : PyData → PyData → Option PyData
  | .str z, .list xs => match strsD xs with
    | some ys => if (ys.map (·.length)).sum + ys.length * z.length ≤ 16777216 then some (.str (Str.join z ys)) else none
    | none => none
  | .str z, .tuple xs => match strsD xs with
    | some ys => if (ys.map (·.length)).sum + ys.length * z.length ≤ 16777216 then some (.str (Str.join z ys)) else none
    | none => none
  | _, _ => none
theorem de_joinA {o e : Expr} {fo fe : FE} {apos cpos : Pos} (ho : DE X o fo) (he : DE X e fe)
    (hbase : attributeBase o "join" X.env (eval o X.env) = eval o X.env := by rfl)
    (hfew : ((backTo cpos (starEach [e] X.env)).all (fun x => !x.1) && (backToKw cpos (keywordEach [] X.env)).all (fun x => x.1.isSome)
      && decide (([e] : List Expr).length + ([] : List Keyword).length + (if ([] : List Keyword).isEmpty then 0 else 1) < 30)) = true := by exact few1 rfl)
    (hline : (apos.endLine == cpos.line) = true := by rfl) (hse : starEach [e] X.env = (false, eval e X.env) :: starEach [] X.env := by exact star_cons rfl) (hplain : (backTo cpos (starEach [] X.env)).any (·.1) = false := by exact star_any rfl) :
    DE X (.Call (.Attribute o "join" apos) [e] [] cpos) (fBin joinA fo fe) := by
  refine ⟨?_⟩
  refine pe_imp (pe_bm PySem.F.plainAttrs_str PySem.F.slot_str_join PySem.F.type_str_join (mt_joinG.or mt_joinT) ho.pe (pa_cons he.pe pa_nil hse) hbase hfew hline hse hplain) fun σ H Q => ?_
  rintro ⟨O, ts, ρ, T, w, T', hc, re, e, q⟩
  obtain ⟨w1, T1, e1, e⟩ := bnd_of e
  obtain ⟨w2, T2, e2, e⟩ := bnd_of e
  obtain ⟨x, y, d, h1, h2, h3, rfl, rfl⟩ := op2_of e
  unfold joinA at h3
  refine ⟨O, ts, ρ, T, w1, T1, hc, re, e1, fun v1 H1 s1 hc1 r1 => ?_⟩
  split at h3
  · rename_i z xs
    split at h3
    · rename_i ys hy
      split at h3
      · rename_i hz
        cases h3
        have ev := wstr r1 h1
        subst ev
        refine ⟨rfl, O, ts, ρ, T1, w2, T', hc1, re.mono hc s1, e2, fun v2 H2 s2 hc2 r2 => ?_⟩
        obtain ⟨a, vs, rfl, t, r⟩ := (hc2.view r2 h2).lst
        rw [strs_of r hy] at t
        exact .inl ⟨z, a, ys, rfl, rfl, t, hz, q _ H2 (s1.trans s2) hc2 (.str _)⟩
      · cases h3
    · cases h3
  · rename_i z xs
    split at h3
    · rename_i ys hy
      split at h3
      · rename_i hz
        cases h3
        have ev := wstr r1 h1
        subst ev
        refine ⟨rfl, O, ts, ρ, T1, w2, T', hc1, re.mono hc s1, e2, fun v2 H2 s2 hc2 r2 => ?_⟩
        obtain ⟨a, vs, rfl, t, r⟩ := (hc2.view r2 h2).tup
        have t := t.sq
        rw [strs_of r hy] at t
        exact .inr ⟨z, a, ys, rfl, rfl, t, hz, q _ H2 (s1.trans s2) hc2 (.str _)⟩
      · cases h3
    · cases h3
  · cases h3
end
end D
namespace L2
open PySem PySem.Spec PyProof.Rows
structure CSn (osc : Scope) (N : List Str) (xs : List Str) (scope : Scope) (N' : List Str) : Prop where
  kind : scope.kind = .function
  nocell : ∀ y ∈ scope.names, y.2 ≠ .cell
  names : ∀ y ∈ scope.names, y.2 = .local → scope.names.lookup y.1 = some .local
  hx : ∀ x ∈ xs, scope.names.lookup x = some .local
  only : ∀ y ∈ scope.names, y.2 = .local → y.1 ∈ xs ∨ y.1 = ".0"
  free : ∀ y ∈ scope.names, y.2 = .free → osc.names.lookup y.1 = some .cell ∨ osc.names.lookup y.1 = some .free
  nd : (xs ++ N').Nodup
  n0 : (".0" : Str) ∉ N'
  len : N'.length = N.length
  rel : ∀ p ∈ N'.zip N, p.1 = p.2 ∨ ∀ q ∈ scope.names, q.1 ≠ p.1
theorem CSn.at {osc : Scope} {N N' : List Str} {xs : List Str} {scope : Scope} (S : CSn osc N xs scope N') {j : Nat} {y : Str} (h : N'[j]? = some y) : N[j]? = some y ∨ ∀ q ∈ scope.names, q.1 ≠ y := by
  have hl : j < N'.length := (List.getElem?_eq_some_iff.mp h).1
  have hl2 : j < N.length := by rw [← S.len]; exact hl
  have m : (N'.zip N)[j]? = some (y, N[j]) := by
    rw [List.getElem?_zip_eq_some]
    exact ⟨h, List.getElem?_eq_getElem hl2⟩
  rcases S.rel _ (List.mem_of_getElem? m) with z | z
  · left
    rw [List.getElem?_eq_getElem hl2]
    exact congrArg some z.symm
  · exact .inr z
noncomputable abbrev compCxn (X : Cx) (xs : List Str) (scope : Scope) (C : Addr) (s0 : Shared) (H0 : Hp) (ex : List Addr) (N' : List Str) : Cx where
  prog := X.prog
  w := X.w
  K := X.K
  mg := X.mg
  base := X.base
  A := X.A
  N := xs ++ N'
  s₀ := s0
  H₀ := H0
  env := compEnvC scope (closOf X.env scope.names []) C X.env
  outer := X.stack
  stack := X.stack
  ex := ex
  fn := fun _ => false
  calm := X.calm
  pn := []
  xe := fun _ _ => False
section
variable {X : Cx} {pins : List (Addr × Obj)} {σ : St} {H : Hp} {s : Shared} {xs : List Str} {scope : Scope} {N' : List Str}
theorem free_hasN (I : Inv X pins σ H s) (S : CSn X.env.scope X.N xs scope N') : ∀ y ∈ scope.names, y.2 = .free → ∃ c, X.env.cells.lookup y.1 = some c := fun y hy e =>
  I.ok.has y.1 (S.free y hy e)
theorem clos_lookN (I : Inv X pins σ H s) (S : CSn X.env.scope X.N xs scope N') {y : Str} {c : Addr} (e : (closOf X.env scope.names []).lookup y = some c) : X.env.cells.lookup y = some c :=
  closOf_look scope.names [] y c (fun _ _ z => by simp at z) (free_hasN I S) e
theorem clos_hasN (I : Inv X pins σ H s) (S : CSn X.env.scope X.N xs scope N') {y : Str} (e : (y, NameKind.free) ∈ scope.names) : ∃ c, (closOf X.env scope.names []).lookup y = some c ∧ X.env.cells.lookup y = some c := by
  obtain ⟨c, hc⟩ := Option.isSome_iff_exists.mp (closOf_has (env := X.env) scope.names [] y e)
  exact ⟨c, hc, clos_lookN I S hc⟩
theorem comp_enterN {fp : List Addr} {h' : Heap} {m : Str → Option Value} {tk : Nat} {oD oC : Obj} (I : Inv X pins σ H s) (S : CSn X.env.scope X.N xs scope N') (hf : ∀ b ∈ fp, FpOk X pins H b) (ho : ∀ b ∈ fp, ∃ o, s.heap.get? b = some o)
    (hns : h'.Ns (s.heap.push oD).objs.size m) (hsb : Heap.SameBut (s.heap.push oD).objs.size ((s.heap.push oD).push oC) h') :
    Inv (compCxn X xs scope (s.heap.push oD).objs.size { s with heap := s.heap.push oD } H (s.heap.objs.size :: fp) N') [] (List.replicate xs.length none ++ σ) H { s with heap := h', toks := tk } := by
  have I3 : Inv X pins σ H { s with heap := s.heap.push oD, toks := s.toks } := I.kept fun b o e => Heap.get?_push_of_some _ e
  have hC : (s.heap.push oD).objs.size = s.heap.objs.size + 1 := Heap.size_push ..
  have up3 : ∀ b o, (s.heap.push oD).get? b = some o → h'.get? b = some o := fun b o e =>
    (hsb.2 b (Nat.ne_of_lt (Heap.lt_size e))).trans (Heap.get?_push_of_some _ e)
  have up : ∀ b o, s.heap.get? b = some o → h'.get? b = some o := fun b o e => up3 b o (Heap.get?_push_of_some _ e)
  have cl := fun {y c} e => clos_lookN (y := y) (c := c) I S e
  have clt : ∀ y c, X.env.cells.lookup y = some c → c < s.heap.objs.size := fun y c e => let ⟨v, q⟩ := I.cell y c e; q.lt
  have inner : ∀ {y : Str} {k' : NameKind}, (relabel scope X.env).names.lookup y = some k' → (k' = .cell ∨ k' = .free) → (y, NameKind.free) ∈ scope.names := fun {y k'} e hk => by
    obtain ⟨k, mem, r⟩ := look_relabel e
    rcases r with r | ⟨r, _⟩
    · rcases hk with z | z
      · exact absurd (r.symm.trans z) (S.nocell _ mem)
      · rw [← r.symm.trans z]; exact mem
    · rw [← r]; exact mem
  have ok : (compCxn X xs scope (s.heap.push oD).objs.size { s with heap := s.heap.push oD } H (s.heap.objs.size :: fp) N').Ok := by
    refine ⟨I.ok.mod, S.kind, I.ok.glob, I.ok.blt, Nat.le_refl _, fun y z c e1 e2 => I.ok.inj y z c (cl e1) (cl e2), fun y hk => ?_, fun y c e => (nomatch e), I.ok.hd, I.ok.frames, .inl rfl, fun b hb => ?_, fun b o e => ?_,
      Nat.le_trans (Nat.le_trans I.ok.bsz I.sz) (by show s.heap.objs.size ≤ (s.heap.push oD).objs.size; omega), fun b o e hb => ?_, fun b hb z => ?_, I3.stack, I.stkFree⟩
    · have mem : (y, NameKind.free) ∈ scope.names := by
        rcases hk with z | z
        · exact inner z (.inl rfl)
        · exact inner z (.inr rfl)
      obtain ⟨c, hc, _⟩ := clos_hasN I S mem
      exact ⟨c, hc⟩
    · rcases List.mem_cons.mp hb with e | e
      · subst e
        exact ⟨by show s.heap.objs.size ≠ (s.heap.push oD).objs.size; omega, fun y c e => Nat.ne_of_lt (clt y c (cl e))⟩
      · obtain ⟨o, q⟩ := ho b e
        have q2 := Heap.lt_size q
        exact ⟨by show b ≠ (s.heap.push oD).objs.size; rw [hC]; exact Nat.ne_of_lt (Nat.lt_succ_of_lt q2), fun y c e' => (hf b e).2.2.2.2.1 y c (cl e')⟩
    · exact ⟨Heap.get?_push_of_some _ (I.bs b o e).1, (I.bs b o e).2⟩
    · rcases List.mem_cons.mp hb with z | z
      · have q2 := Heap.lt_size (I.bs b o e).1
        rw [z] at q2
        exact Nat.lt_irrefl _ q2
      · rcases (hf b z).2.2.2.1 with q | q
        · exact I.ok.noex b o e q
        · have q2 := Heap.lt_size (I.ok.bs b o e).1
          exact Nat.lt_irrefl _ (Nat.lt_of_lt_of_le q2 q)
    · have z' := I.stkSub b z
      rcases List.mem_cons.mp hb with e | e
      · subst e
        rcases List.mem_cons.mp z' with q | q
        · have q2 := I.lt
          rw [← q] at q2
          exact Nat.lt_irrefl _ q2
        · exact I.nofs (Nat.le_refl _) q
      · rcases List.mem_cons.mp z' with q | q
        · exact (hf b e).2.1 q
        · exact (hf b e).2.2.1 q
  obtain ⟨mo, hno, hlo⟩ := I.loc
  refine ⟨ok, rfl, I.bare, Un.kept up3, ⟨m, hns, fun i y v e1 e2 e3 => ?_⟩, fun y c e => ?_, I.hok.fresh (by show s.heap.objs.size ≤ (s.heap.push oD).objs.size; omega), fun y c e => I.freeC y c (cl e), fun p hp => absurd hp (by simp), I.hok.kept up, ?_⟩
  · by_cases hi : i < xs.length
    · rw [List.getElem?_append_left (by simpa using hi)] at e2
      have := List.mem_of_getElem? e2
      rw [List.mem_replicate] at this
      cases this.2
    · obtain ⟨j, rfl⟩ : ∃ j, i = xs.length + j := ⟨i - xs.length, by omega⟩
      have e1n : N'[j]? = some y := by
        have e1' : (xs ++ N')[xs.length + j]? = some y := e1
        rw [List.getElem?_append_right (by omega)] at e1'
        simpa using e1'
      have vis : ∃ k, (y, k) ∈ scope.names := by
        rcases (show Vis (relabel scope X.env) y from e3) with z | z | z <;> exact let ⟨k, mem, _⟩ := look_relabel z; ⟨k, mem⟩
      have e1' : X.N[j]? = some y := by
        rcases S.at e1n with z | z
        · exact z
        · obtain ⟨k, mem⟩ := vis
          exact absurd rfl (z _ mem)
      have e2' : σ[j]? = some (some v) := by
        rw [List.getElem?_append_right (by simp)] at e2
        simpa using e2
      have yx : y ∉ xs := fun z => (List.nodup_append.mp S.nd).2.2 y z y (List.mem_of_getElem? e1n) rfl
      have kin : ((relabel scope X.env).names.lookup y = some .cell ∨ (relabel scope X.env).names.lookup y = some .free) := by
        rcases (show Vis (relabel scope X.env) y from e3) with z | z | z
        · obtain ⟨k, mem, r⟩ := look_relabel z
          rcases r with r | ⟨_, r⟩
          · rcases S.only _ mem r.symm with z2 | z2
            · exact absurd z2 yx
            · exact absurd (List.mem_of_getElem? e1n) (by rw [show y = (".0" : Str) from z2]; exact S.n0)
          · cases r
        · exact .inl z
        · exact .inr z
      have mem : (y, NameKind.free) ∈ scope.names := by
        rcases kin with z | z
        · exact inner z (.inl rfl)
        · exact inner z (.inr rfl)
      have vo : Vis X.env.scope y := by
        rcases S.free _ mem rfl with z | z
        · exact .inr (.inl z)
        · exact .inr (.inr z)
      obtain ⟨u, ru, lk⟩ := hlo j y v e1' e2' vo
      refine ⟨u, ru, .inr ⟨kin, ?_⟩⟩
      obtain ⟨c, hc, hc'⟩ := clos_hasN I S mem
      refine ⟨c, hc, ?_⟩
      rcases lk with ⟨z, _⟩ | ⟨_, c2, z2, q⟩
      · exfalso
        have z' : X.env.scope.names.lookup y = some .local := z
        rcases S.free _ mem rfl with r | r <;> (rw [z'] at r; cases r)
      · rw [hc'] at z2
        cases z2
        obtain ⟨o, q1, q2⟩ := q
        exact ⟨o, up _ _ q1, q2⟩
  · obtain ⟨v, o, q1, q2⟩ := I.cell y c (cl e)
    exact ⟨v, o, up _ _ q1, q2⟩
  · have := I.len
    show (List.replicate xs.length none ++ σ).length = (xs ++ N').length
    simp [this, S.len]
theorem comp_leaveN {fp : List Addr} {σ' : St} {pins' : List (Addr × Obj)} {H1 : Hp} {s1 : Shared} {h' : Heap} {C : Addr} {oD : Obj} {ys : List V} (I : Inv X pins σ H s) (hf : ∀ b ∈ fp, FpOk X pins H b)
    (hCd : C = (s.heap.push oD).objs.size) (J : Inv (compCxn X xs scope C { s with heap := s.heap.push oD } H (s.heap.objs.size :: fp) N') pins' σ' H1 s1) (hsb : Heap.SameBut C s1.heap h') (hD0 : H1 s.heap.objs.size = none)
    (new : ∃ its n, Vals ys its ∧ s1.heap.get? s.heap.objs.size = some { cls := .type "list", data := .seq its.toArray n }) (hz : ys.length ≤ sizeLine) :
    Inv X pins σ (upd H1 s.heap.objs.size (.lst ys)) { s1 with heap := h' } := by
  have hC : C = s.heap.objs.size + 1 := by rw [hCd]; exact Heap.size_push ..
  have nD : ∀ b o, s.heap.get? b = some o → b ≠ s.heap.objs.size := fun b o e => Nat.ne_of_lt (Heap.lt_size e)
  have nC : ∀ b o, s.heap.get? b = some o → b ≠ C := fun b o e => by rw [hC]; exact Nat.ne_of_lt (Nat.lt_succ_of_lt (Heap.lt_size e))
  have up : ∀ b o, s.heap.get? b = some o → (s.heap.push oD).get? b = some o := fun b o e => Heap.get?_push_of_some _ e
  have nx : ∀ b, b ∉ fp → b ≠ s.heap.objs.size → b ∉ s.heap.objs.size :: fp := fun b h1 h2 z => (List.mem_cons.mp z).elim h2 h1
  have hDC : s.heap.objs.size ≠ C := by rw [hC]; exact Nat.ne_of_lt (Nat.lt_succ_self _)
  have tr : ∀ b u, H1 b = some u → b ≠ s.heap.objs.size := fun b u e z => by rw [z, hD0] at e; cases e
  have trC : ∀ b u, H1 b = some u → b ≠ C := fun b u e z => by
    have := J.free
    rw [z] at e
    have q : H1 C = none := J.free
    rw [q] at e; cases e
  obtain ⟨its, n, rv, eD⟩ := new
  have B : Un (frs X.stack) (s.heap.objs.size :: fp) H H1 (s.heap.push oD) s1.heap := J.base
  refine I.call' (s' := { s1 with heap := h' }) (ch := fp) J.os ⟨fun b o e q h1 h2 => ?_, fun b o e q h1 h2 => ?_, fun b o e q h2 => ?_, fun b o e h2 => ?_, fun b xs e => ?_, fun b o u e => ?_, fun b ps e => ?_⟩ (fun b u e => ?_) J.bare fun b hb => ?_
  · exact (hsb.2 b (nC b o e)).trans (B.keep b o (up b o e) q h1 (nx b h2 (nD b o e)))
  · obtain ⟨sl, z⟩ := B.slot b o (up b o e) q h1 (nx b h2 (nD b o e))
    exact ⟨sl, (hsb.2 b (nC b o e)).trans z⟩
  · rw [upd_ne (nD b o e)]
    exact B.free b o (up b o e) q (nx b h2 (nD b o e))
  · obtain ⟨o', z⟩ := B.there b o (up b o e) (nx b h2 (nD b o e))
    exact ⟨o', (hsb.2 b (nC b o e)).trans z⟩
  · have z := B.tups b xs e
    rw [upd_ne (tr b _ z)]; exact z
  · have z := B.frzs b o u e
    rw [upd_ne (tr b _ z)]; exact z
  · obtain ⟨more, z⟩ := B.tbls b ps e
    exact ⟨more, by rw [upd_ne (tr b _ z)]; exact z⟩
  · by_cases hb : b = s.heap.objs.size
    · subst hb
      rw [upd_same] at e
      cases e
      exact ⟨hz, its, n, rv, (hsb.2 _ hDC).trans eD⟩
    · rw [upd_ne hb] at e
      refine (J.hok b u e).stay (fun c v hc q => (hsb.2 c ?_).trans q) (fun c q => by rw [upd_ne (tr c _ q)]; exact q) fun c xs q => by rw [upd_ne (tr c _ q)]; exact q
      rcases hc with z | z
      · rw [z]; exact trC b u e
      · exact trC c _ z
  · obtain ⟨_, f1, _, f3, f4, f5⟩ := hf b hb
    exact ⟨f3, f1, f4, f5⟩
end
theorem compT_tests {prog : Program} {w : World} {A : Around} {R : Result → Shared → Prop} {s : Shared} {elt tg iter : Expr} {ifs : List Expr} {scope : Scope} {pos : Pos} {it acc : Value} {env : Env} (I : Nat → Shared → Prop)
    (turn : ∀ n s, I n s → wpAny (model prog w) A (pyNext it) (fun r s1 => match r with
      | none => R (.ok .next) s1
      | some v => wpAny (model prog w) A (letOwnedTupleGo tg it v) (fun _ s2 => wpAny (model prog w) A (assign tg env v) (fun _ s2 =>
          wpAny (model prog w) A (forIn ifs true fun c r => if r = true then do
            let ok ← isTrue c env (eval c env)
            pure (ForInStep.yield ok) else pure (ForInStep.yield r)) (fun ok s3 =>
            if ok = true then wpAny (model prog w) A (eval elt env) (fun x s4 => wpAny (model prog w) A (call (.builtin "list.append") [acc, x]) (fun _ s5 => ∃ m, m < n ∧ I m s5)
              (notedBy (model prog w) A env fun e s' => R (.error e) s') s4) (notedBy (model prog w) A env fun e s' => R (.error e) s') s3
            else ∃ m, m < n ∧ I m s3) (notedBy (model prog w) A env fun e s' => R (.error e) s') s2) (notedBy (model prog w) A env fun e s' => R (.error e) s') s2) (notedBy (model prog w) A env fun e s' => R (.error e) s') s1) (notedBy (model prog w) A env fun e s' => R (.error e) s') s)
    (n : Nat) (h : I n s) : codeAny (model prog w) A (.compLoop (.ListComp elt [⟨tg, iter, ifs, 0⟩] scope pos) 0 it acc env) R s := by
  refine codeAny_loop rfl I (fun n s hI => wpAny_noted ?_) n h
  rw [compTurn_list]
  refine wpAny_bind (wpAny_standAt (wpAny_bind (thn (turn n s hI) fun r s1 h1 => ?_)))
  cases r with
  | none => exact wpAny_pure h1
  | some v =>
    refine wpAny_bind (thn h1 fun _ s2 h2 => wpAny_bind (thn h2 fun _ s3 h3 => wpAny_bind (thn h3 fun ok s4 h4 => ?_)))
    cases ok with
    | false => exact wpAny_pure ⟨rfl, h4⟩
    | true => exact wpAny_bind (wpAny_bind (thn h4 fun x s5 h5 => wpAny_bind (thn h5 fun _ s6 h6 => wpAny_pure (wpAny_pure ⟨rfl, h6⟩))))
noncomputable def cLoopN (n : Nat) (g : TG) (σ : St) (J : It) (tt : TT) (te : TE) (W : Nat → Nat → List V → Hp → Prop) (D : List V → Hp → Prop) : Prop := ∀ i m ys H, W i m ys H →
  (J.stop i H ∧ ys.length ≤ sizeLine ∧ D ys H) ∨ (J.go i H ∧ ys.length < sizeLine ∧ ∃ N : List V → Hp → Prop, (∀ ys' H', N ys' H' → ∃ m', m' < m ∧ W (i + 1) m' ys' H') ∧ ∀ v H', J.yld i H v H' → ∀ σx : St, σx.length = n → g v (σx ++ σ) H' fun σ1 H1 => (∃ σy : St, σy.length = n ∧ σ1 = σy ++ σ) ∧ tt σ1 H1 fun b H2 =>
    if b = true then te σ1 H2 fun y H3 => N (ys ++ [y]) H3 else N ys H2)
section
variable {X : Cx} {pins : List (Addr × Obj)} {σ : St} {H : Hp} {s : Shared} {xs : List Str} {scope : Scope} {N' : List Str}
theorem comp_loopN {fp : List Addr} {it C : Addr} {tn : Nat → Heap → Prop} {J : It} {oD : Obj} {elt iter : Expr} {ifs : List Expr} {pos : Pos} {tg : Expr} {g : TG} {te : TE} {tt : TT} {W : Nat → Nat → List V → Hp → Prop} {Dn : List V → Hp → Prop}
    {R : Result → Shared → Prop} {σ' : St} {s4 : Shared} {m0 : Nat} (hcalm : X.calm = true) (S : CSn X.env.scope X.N xs scope N') (hf : ∀ b ∈ fp, FpOk X pins H b) (ho : ∀ b ∈ fp, ∃ o, s.heap.get? b = some o) (hCd : C = (s.heap.push oD).objs.size)
    (T : Turn X.prog X.w X.K tg J fp it tn) (I4 : Inv (compCxn X xs scope C { s with heap := s.heap.push oD } H (s.heap.objs.size :: fp) N') [] (List.replicate xs.length none ++ σ) H s4) (st4 : tn 0 s4.heap) (hD4 : s4.heap.get? s.heap.objs.size = some { cls := .type "list", data := .seq #[] 0 })
    (hDn : H s.heap.objs.size = none) (hgg : PG (compCxn X xs scope C { s with heap := s.heap.push oD } H (s.heap.objs.size :: fp) N') tg g) (hte : PE (compCxn X xs scope C { s with heap := s.heap.push oD } H (s.heap.objs.size :: fp) N') elt te) (htt : PTs (compCxn X xs scope C { s with heap := s.heap.push oD } H (s.heap.objs.size :: fp) N') ifs tt)
    (w0 : W 0 m0 [] H) (turn : cLoopN xs.length g σ J tt te W Dn)
    (hR : ∀ s1 H1 σ1 ys its n, Inv (compCxn X xs scope C { s with heap := s.heap.push oD } H (s.heap.objs.size :: fp) N') [] σ1 H1 s1 → H1 s.heap.objs.size = none → Vals ys its → s1.heap.get? s.heap.objs.size = some { cls := .type "list", data := .seq its.toArray n } → ys.length ≤ sizeLine → Dn ys H1 → R (.ok .next) s1) :
    codeAny (model X.prog X.w) X.A (.compLoop (.ListComp elt [⟨tg, iter, ifs, 0⟩] scope pos) 0 (.ref it) (.ref s.heap.objs.size) (compEnvC scope (closOf X.env scope.names []) C X.env)) R s4 := by
  have hC : C = s.heap.objs.size + 1 := by rw [hCd]; exact Heap.size_push ..
  generalize hX : compCxn X xs scope C { s with heap := s.heap.push oD } H (s.heap.objs.size :: fp) N' = X' at *
  have xP : X'.prog = X.prog := by rw [← hX]
  have xW : X'.w = X.w := by rw [← hX]
  have xK : X'.K = X.K := by rw [← hX]
  have xA : X'.A = X.A := by rw [← hX]
  have xE : X'.env = compEnvC scope (closOf X.env scope.names []) C X.env := by rw [← hX]
  have xC : X'.calm = true := by rw [← hX]; exact hcalm
  have xex : X'.ex = s.heap.objs.size :: fp := by rw [← hX]
  have xpn : X'.pn = [] := by rw [← hX]
  have xxe : X'.xe = fun _ _ => False := by rw [← hX]
  have xL : X'.env.locals = C := by rw [xE]; rfl
  have lt : ∀ b ∈ fp, b < s.heap.objs.size := fun b hb => let ⟨_, e⟩ := ho b hb; Heap.lt_size e
  have fpk : ∀ {pl : List (Addr × Obj)} {H' : Hp}, (∀ p ∈ pl, p.1 = s.heap.objs.size) → (∀ b ∈ fp, H' b = none) → ∀ b ∈ fp, FpOk X' pl H' b := fun {pl H'} hp hn b hb => by
    have okk := I4.ok
    have hm : b ∈ X'.ex := by rw [xex]; exact List.mem_cons_of_mem _ hb
    refine ⟨hn b hb, (okk.exf b hm).1, okk.exfs b hm, .inl hm, (okk.exf b hm).2, fun p hpl z => ?_⟩
    rw [xpn] at hpl
    have q1 := hp p (by simpa using hpl)
    have q2 := lt b hb
    rw [← z, q1] at q2
    exact Nat.lt_irrefl _ q2
  have dok : ∀ {pl : List (Addr × Obj)} {H' : Hp}, (∀ p ∈ pl, p.1 ∈ fp) → H' s.heap.objs.size = none → FpOk X' pl H' s.heap.objs.size := fun {pl H'} hp hn => by
    have okk := I4.ok
    have hm : s.heap.objs.size ∈ X'.ex := by rw [xex]; exact List.mem_cons_self
    refine ⟨hn, (okk.exf _ hm).1, okk.exfs _ hm, .inl hm, (okk.exf _ hm).2, fun p hpl z => ?_⟩
    rw [xpn] at hpl
    have q2 := lt p.1 (hp p (by simpa using hpl))
    rw [z] at q2
    exact Nat.lt_irrefl _ q2
  refine compT_tests (I := fun m s' => ∃ i σx H' ys its n, σx.length = xs.length ∧ Inv X' [] (σx ++ σ) H' s' ∧ tn i s'.heap ∧ (∀ b ∈ fp, H' b = none) ∧ H' s.heap.objs.size = none ∧ Vals ys its ∧ s'.heap.get? s.heap.objs.size = some { cls := .type "list", data := .seq its.toArray n } ∧ W i m ys H') ?_ m0
    ⟨0, List.replicate xs.length none, H, [], [], 0, by simp, I4, st4, fun b hb => (hf b hb).1, hDn, .nil, hD4, w0⟩
  rintro m s5 ⟨i, σx, H5, ys, its, n, hσx, I5, st5, fr5, d5, rv, e5, w5⟩
  have I5d : Inv X' ([] ++ pinsAt [s.heap.objs.size] s5.heap) (σx ++ σ) H5 s5 := I5.pinned (fun b hb => by
      have e : b = s.heap.objs.size := by simpa using hb
      rw [e]; exact dok (fun p hp => absurd hp (by simp)) d5) fun b hb => by
      have e : b = s.heap.objs.size := by simpa using hb
      rw [e]; exact ⟨_, e5, fun v z => by cases z⟩
  have pD : ([] ++ pinsAt [s.heap.objs.size] s5.heap : List (Addr × Obj)) = [(s.heap.objs.size, { cls := .type "list", data := .seq its.toArray n })] := by
    simp [pinsAt, e5]
  rw [pD] at I5d
  have p1 : ∀ p ∈ [(s.heap.objs.size, ({ cls := .type "list", data := .seq its.toArray n } : Obj))], p.1 = s.heap.objs.size := fun p hp => by
    have e : p = (s.heap.objs.size, { cls := .type "list", data := .seq its.toArray n }) := by simpa using hp
    rw [e]
  have hsz : its.length = ys.length := rv.length.symm
  rcases turn i m ys H5 w5 with ⟨stop, hz, dn⟩ | ⟨go, hz, N, hN, step⟩
  · have q := T.done X' xP xW xK xC i _ s5 (σx ++ σ) H5 (notedBy (model X.prog X.w) X.A (compEnvC scope (closOf X.env scope.names []) C X.env) fun e s' => R (.error e) s') I5d (fpk p1 fr5) st5 stop
    rw [xA] at q
    refine wpAny_mono q (fun r s6 z => ?_) fun _ _ z => z
    obtain ⟨rfl, I6⟩ := z
    refine hR s6 H5 (σx ++ σ) ys its n ?_ d5 rv (I6.pin _ (List.mem_append_right _ (List.mem_singleton.mpr rfl))).1 hz dn
    exact I6.pins_of fun p hp => absurd hp (by simp)
  · have q := T.item X' xP xW xK xC i _ s5 (σx ++ σ) H5 (notedBy (model X.prog X.w) X.A (compEnvC scope (closOf X.env scope.names []) C X.env) fun e s' => R (.error e) s') I5d (fpk p1 fr5) st5 go
    rw [xA] at q
    refine wpAny_mono q (fun r s6 z => ?_) fun _ _ z => z
    obtain ⟨u, rfl, z⟩ := z
    dsimp only
    refine wpAny_mono z (fun _ s7 z => ?_) fun _ _ z => z
    obtain ⟨v, H7, I7, rv7, y7, st7, fr7⟩ := z
    have I7p := I7.pinned (fpk p1 fr7) (T.obj _ _ st7)
    rw [← xE]
    have a7 := hgg _ s7 _ H7 v u _ I7p rv7 (step v H7 y7 σx hσx)
    rw [xP, xW, xA] at a7
    refine wpAny_mono a7 (fun _ s8 z => ?_) fun _ _ z => by rw [xxe] at z; exact z.elim
    obtain ⟨σ1, H8, I8, ⟨σy, hσy, rfl⟩, q8⟩ := z
    have t8 := htt _ s8 (σy ++ σ) H8 _ (notedBy (model X.prog X.w) X.A X'.env fun e s' => R (.error e) s') I8 q8
    rw [xP, xW, xA] at t8
    refine wpAny_mono t8 (fun ok s9 z => ?_) fun _ _ z => z
    obtain ⟨H9, I9, q9⟩ := z
    have back : ∀ {s' : Shared} {H' : Hp} {σ2 : St}, Inv X' ([(s.heap.objs.size, ({ cls := .type "list", data := .seq its.toArray n } : Obj))] ++ pinsAt fp s7.heap) σ2 H' s' →
        tn (i + 1) s'.heap ∧ (∀ b ∈ fp, H' b = none) ∧ H' s.heap.objs.size = none ∧ s'.heap.get? s.heap.objs.size = some { cls := .type "list", data := .seq its.toArray n } ∧ Inv X' [] σ2 H' s' := fun {s' H' σ2} I' => by
      refine ⟨T.keep _ _ _ st7 fun b hb o e => (I'.pin (b, o) (List.mem_append_right _ (List.mem_append_right _ (mem_pinsAt hb e)))).1, fun b hb => ?_, ?_, ?_, I'.pins_of fun p hp => absurd hp (by simp)⟩
      · obtain ⟨o, e, _⟩ := T.obj _ _ st7 b hb
        exact (I'.pin (b, o) (List.mem_append_right _ (List.mem_append_right _ (mem_pinsAt hb e)))).2.1
      · exact (I'.pin (s.heap.objs.size, _) (List.mem_append_right _ (List.mem_append_left _ (List.mem_singleton.mpr rfl)))).2.1
      · exact (I'.pin (s.heap.objs.size, _) (List.mem_append_right _ (List.mem_append_left _ (List.mem_singleton.mpr rfl)))).1
    cases ok with
    | false =>
      simp only [Bool.false_eq_true, if_false] at q9 ⊢
      obtain ⟨m', hm, w9⟩ := hN _ _ q9
      obtain ⟨a1, a2, a3, a4, a5⟩ := back I9
      exact ⟨m', hm, i + 1, σy, H9, ys, its, n, hσy, a5, a1, a2, a3, rv, a4, w9⟩
    | true =>
      simp only [if_true] at q9 ⊢
      have t9 := hte _ s9 (σy ++ σ) H9 _ I9 q9
      rw [xP, xW, xA, xxe] at t9
      refine wpAny_mono t9 (fun u2 s10 z => ?_) fun _ _ z => z.elim
      obtain ⟨y, H10, I10, r10, q10⟩ := z
      obtain ⟨m', hm, w10⟩ := hN _ _ q10
      obtain ⟨a1, a2, a3, a4, a5⟩ := back I10
      refine wpAny_list_append_plain ⟨n, a4⟩ (fun h' pl sb => ?_) (by rw [List.size_toArray]; omega)
      obtain ⟨n', e'⟩ := pl
      have D0 := dok (pl := []) (fun p hp => absurd hp (by simp)) a3
      refine ⟨m', hm, i + 1, σy, H10, ys ++ [y], its ++ [u2], n', hσy, a5.turned (t' := s10.toks) (fun b o hb e => (sb.2 b hb).trans e) D0.1 D0.2.1 D0.2.2.2.1 D0.2.2.2.2.1 D0.2.2.2.2.2, ?_, a2, a3, rv.append (.cons r10 .nil), by simpa using e', w10⟩
      exact T.keep _ _ _ a1 fun b hb o e => (sb.2 b (Nat.ne_of_lt (lt b hb))).trans e
end
section
variable {X : Cx} {xs : List Str} {scope : Scope} {N' : List Str} {tg elt iter : Expr} {ifs : List Expr} {pos : Pos} {wi : TI} {g : TG} {te : TE} {tt : TT}
noncomputable def tCompN (n : Nat) (g : TG) (wi : TI) (tt : TT) (te : TE) : TE := fun σ H Q => wi σ H fun J H1 => ∃ W : Nat → Nat → List V → Hp → Prop, (∃ m, W 0 m [] H1) ∧ cLoopN n g σ J tt te W fun ys H => ∀ p, H p = none → Q (.ref p) (upd H p (.lst ys))
theorem pe_compN (hc : X.calm = true) (S : CSn X.env.scope X.N xs scope N') (hi : PI X tg iter wi) (hg : ∀ C s0 H0 ex, PG (compCxn X xs scope C s0 H0 ex N') tg g) (he : ∀ C s0 H0 ex, PE (compCxn X xs scope C s0 H0 ex N') elt te)
    (ht : ∀ C s0 H0 ex, PTs (compCxn X xs scope C s0 H0 ex N') ifs tt) (hs : ∀ v, foldedSetIterable iter X.env v = pure v := by intro _; rfl) : PE X (.ListComp elt [⟨tg, iter, ifs, 0⟩] scope pos) (tCompN xs.length g wi tt te) := by
  intro pins s σ H Q I h
  rw [eval_ListComp]
  refine wpAny_comprehension_free (use := none) rfl hs (closure_eq (free_hasN I S)) S.kind S.names (thn (hi pins s σ H _ I h) fun v s1 h1 => thn h1 fun itv s2 h2 => ?_)
  obtain ⟨it, fp, tn, J, H2, rfl, I2, T, st2, f2, W, ⟨m0, w0⟩, turn⟩ := h2
  have ho : ∀ b ∈ fp, ∃ o, s2.heap.get? b = some o := fun b hb => let ⟨o, e, _⟩ := T.obj _ _ st2 b hb; ⟨o, e⟩
  refine wpAny_newObj_type (wpAny_newFunctionEnv S.nocell (by intro y hy; simp at hy) (fun h' hns hsb => ?_) S.kind)
  have I4 := comp_enterN (xs := xs) (scope := scope) (tk := s2.toks + ([] : List (Str × Value)).length) I2 S f2 ho hns hsb
  have up3 : ∀ b o, (s2.heap.push { cls := .type "list", dict := none, data := .seq ([] : List Value).toArray }).get? b = some o → h'.get? b = some o := fun b o e =>
    (hsb.2 b (Nat.ne_of_lt (Heap.lt_size e))).trans (Heap.get?_push_of_some _ e)
  have st4 : tn 0 h' := T.keep _ _ _ st2 fun b _ o e => up3 b o (Heap.get?_push_of_some _ e)
  have loop := comp_loopN (elt := elt) (iter := iter) (ifs := ifs) (pos := pos) (R := compPost (model X.prog X.w) X.A X.xe none (EP X pins σ Q) (.ref s2.heap.objs.size) (s2.heap.push { cls := .type "list", dict := none, data := .seq ([] : List Value).toArray }).objs.size) (σ' := σ)
    hc S f2 ho rfl T I4 st4 (up3 _ _ (Heap.get?_push_size _ rfl)) (I2.hok.fresh (Nat.le_refl _)) (hg _ _ _ _) (he _ _ _ _) (ht _ _ _ _) w0 turn fun s5 H5 σ5 ys its n J5 d5 rv e5 hz dn => by
      obtain ⟨m, hn, _⟩ := J5.loc
      exact ⟨m, hn, fun h'' sb => ⟨.ref s2.heap.objs.size, _, comp_leaveN I2 f2 rfl J5 sb d5 ⟨its, n, rv, e5⟩ hz, rfl, dn _ d5⟩⟩
  exact codeAny_compStart_list loop (T.self X.A 0 _ _ _ st4 loop)
end
end L2
namespace D
open PySem PySem.Spec PyProof.Rows L2
noncomputable def compL2 (c : FT) (e : FE) (ρ : Rho) : List PyData → Tp → Option (List PyData × Tp)
  | [], T => some ([], T)
  | .tuple [a, b] :: r, T => bnd (c (some (.d a) :: some (.d b) :: ρ) T) fun k T1 => if k = true then bnd (e (some (.d a) :: some (.d b) :: ρ) T1) fun w T2 => match w with
      | .d y => bnd (compL2 c e ρ r T2) fun ys T3 => some (y :: ys, T3)
      | _ => none
    else compL2 c e ρ r T1
  | _, _ => none
noncomputable def fComp2 (it : FI) (c : FT) (e : FE) : FE := fun ρ T => bnd (it ρ T) fun ds T1 => bnd (compL2 c e ρ ds T1) fun ys T2 => some (.d (.list ys), T2)
theorem comp_ok2 {K : PySem.W.Frag} {O : Addr → Prop} {ts : List Addr} {H1 : Hp} {σ : L2.St} {ρ : Rho} {J : It} {c : FT} {e : FE} {g : TG} {ds ys : List PyData} {T1 T2 : Tp} {Dn : List V → Hp → Prop} (hc : HC K O ts H1 T1) (re : RelE K O ts H1 σ ρ) (ok : ItOk K O H1 J ds) (hz : ds.length ≤ sizeLine)
    (hg : ∀ (a : Addr) (v u o1 o2 : V) (p q : Option V) (H : Hp) (Q : L2.St → Hp → Prop), SqT K H a [v, u] → Q (some v :: some u :: σ) H → g (.ref a) (p :: q :: σ) H Q)
    (ee : compL2 c e ρ ds T1 = some (ys, T2)) (q : ∀ vs H', SameX ts H1 H' → HC K O ts H' T2 → Reps K O H' vs ys → Dn vs H') :
    ∃ W : Nat → Nat → List V → Hp → Prop, (∃ m, W 0 m [] H1) ∧ cLoopN 2 g σ J (liftT K c) (lift K e) W Dn := by
  refine ⟨fun i m vs H' => m = ds.length - i ∧ i ≤ ds.length ∧ vs.length ≤ i ∧ ∃ T dn rs, SameX ts H1 H' ∧ HC K O ts H' T ∧ Reps K O H' vs dn ∧ compL2 c e ρ (ds.drop i) T = some (rs, T2) ∧ ys = dn ++ rs, ⟨_, rfl, Nat.zero_le _, Nat.le_refl _, T1, [], ys, .refl _ _, hc, .nil, ee, rfl⟩, ?_⟩
  rintro i m vs H' ⟨rfl, hi, hv, T, dn, rs, s1, hc1, rv, ec, ey⟩
  obtain ⟨k1, k2, k3⟩ := ok O H' (hc.le s1)
  by_cases hlt : i < ds.length
  · refine .inr ⟨k1 i hlt, by omega, fun vs' H2 => i + 1 ≤ ds.length ∧ vs'.length ≤ i + 1 ∧ ∃ T dn rs, SameX ts H1 H2 ∧ HC K O ts H2 T ∧ Reps K O H2 vs' dn ∧ compL2 c e ρ (ds.drop (i + 1)) T = some (rs, T2) ∧ ys = dn ++ rs, fun vs' H2 n => ⟨ds.length - (i + 1), by omega, rfl, n⟩, fun v H2 y σx hσ => ?_⟩
    obtain ⟨e2, d, hd, rd⟩ := k3 i v H2 y hlt
    subst e2
    have hdr : ds.drop i = d :: ds.drop (i + 1) := by
      rw [List.drop_eq_getElem_cons hlt, (List.getElem?_eq_some_iff.mp hd).2]
    rw [hdr] at ec
    generalize ds.drop (i + 1) = rest at ec
    have hab : ∃ a b, d = .tuple [a, b] := by
      unfold compL2 at ec
      split at ec
      · rename_i h; cases h
      · rename_i h; injection h with h1 h2; exact ⟨_, _, h1⟩
      · cases ec
    obtain ⟨a, b, rfl⟩ := hab
    · cases rd with
      | @tup ad us _ tu ru =>
      cases ru with
      | cons ra ru =>
      cases ru with
      | cons rb ru =>
      cases ru
      obtain ⟨p1, p2, rfl⟩ : ∃ p1 p2, σx = [p1, p2] := by
        match σx, hσ with
        | [p1, p2], _ => exact ⟨p1, p2, rfl⟩
      refine hg ad _ _ .non .non p1 p2 H2 _ tu.sq ⟨⟨[_, _], rfl, rfl⟩, ?_⟩
      obtain ⟨k, T3, e3, ec⟩ := bnd_of ec
      have re2 : RelE K O ts H2 (_ :: _ :: σ) (some (.d a) :: some (.d b) :: ρ) := ((re.mono hc s1).cons rb).cons ra
      refine ⟨O, ts, some (.d a) :: some (.d b) :: ρ, T, k, T3, hc1, re2, e3, fun H3 s3 hc3 => ?_⟩
      cases k with
      | false =>
        rw [if_neg Bool.false_ne_true] at ec
        exact iteF ⟨hlt, by omega, T3, dn, rs, s1.trans s3, hc3, rv.mono (hc1.le s3), ec, ey⟩
      | true =>
        rw [if_pos rfl] at ec
        obtain ⟨w, T4, e4, ec⟩ := bnd_of ec
        refine iteT ⟨O, ts, some (.d a) :: some (.d b) :: ρ, T3, w, T4, hc3, re2.mono hc1 s3, e4, fun u H4 s4 hc4 r4 => ?_⟩
        split at ec
        · rename_i y
          obtain ⟨zs, T5, e5, ec⟩ := bnd_of ec
          cases ec
          exact ⟨hlt, by simp; omega, T4, dn ++ [y], zs, s1.trans (s3.trans s4), hc4, (rv.mono (hc1.le (s3.trans s4))).append (.cons r4 .nil), e5, by rw [ey]; simp⟩
        · cases ec
  · have e : i = ds.length := by omega
    subst e
    rw [List.drop_eq_nil_of_le (Nat.le_refl _)] at ec
    cases ec
    rw [List.append_nil] at ey
    subst ey
    exact .inl ⟨k2, by omega, q vs H' s1 hc1 rv⟩
theorem de_comp2 {X : Cx} {x y : Str} {scope osc : Scope} {N N' : List Str} {elt iter : Expr} {ifs : List Expr} {k : Nat} {px py tp pos : Pos} {it : FI} {c : FT} {f : FE} (S : CSn osc N [x, y] scope N') (hi : DI X (.Tuple [.Name x px, .Name y py] k tp) iter it)
    (he : ∀ C s0 H0 ex, DE (compCxn X [x, y] scope C s0 H0 ex N') elt f) (ht : ∀ C s0 H0 ex, DTs (compCxn X [x, y] scope C s0 H0 ex N') ifs c) (hc : X.calm = true := by rfl) (hs : X.env.scope = osc := by rfl) (hN : X.N = N := by rfl)
    (hf : ∀ v, foldedSetIterable iter X.env v = pure v := by intro _; rfl) : DE X (.ListComp elt [⟨.Tuple [.Name x px, .Name y py] k tp, iter, ifs, 0⟩] scope pos) (fComp2 it c f) := by
  refine ⟨?_⟩
  subst hs hN
  have lx : ∀ C, (compEnvC scope (closOf X.env scope.names []) C X.env).scope.names.lookup x = some .local := fun C => lookup_relabel_local (S.hx x (by simp))
  have ly : ∀ C, (compEnvC scope (closOf X.env scope.names []) C X.env).scope.names.lookup y = some .local := fun C => lookup_relabel_local (S.hx y (by simp))
  refine pe_imp (pe_compN (xs := [x, y]) (g := gTup X.K 2 (gCons (gName 0) (gCons (gName 1) gNil))) (wi := liftI X.K it) (tt := liftT X.K c) (te := lift X.K f) hc S hi.pe (fun C s0 H0 ex => pg_tup (X := compCxn X [x, y] scope C s0 H0 ex N') (n := 2) hc (pgs_cons (pg_name S.nd (i := 0) rfl (.inl (lx C)) (.inr (lx C))) (pgs_cons (pg_name S.nd (i := 1) rfl (.inl (ly C)) (.inr (ly C))) pgs_nil))) (fun C s0 H0 ex => (he C s0 H0 ex).pe) (fun C s0 H0 ex => (ht C s0 H0 ex).pe) hf) fun σ H Q => ?_
  rintro ⟨O, ts, ρ, T, w, T', hc, re, e, q⟩
  obtain ⟨ds, T1, e1, e⟩ := bnd_of e
  obtain ⟨ys, T2, e2, e⟩ := bnd_of e
  cases e
  refine ⟨O, ts, ρ, T, ds, T1, hc, re, e1, fun J H1 s1 hc1 ok hz => ?_⟩
  exact comp_ok2 hc1 (re.mono hc s1) ok hz (fun a v u _ _ p q H Q t z => ⟨a, _, rfl, t, rfl, _, _, rfl, _, _, rfl, rfl, z⟩) e2 fun vs H' s2 hc2 r2 p hp => q _ _ (s1.trans (s2.trans (.new hp _))) (hc2.new hp _) (hc2.newL hp r2)
end D
namespace D
open PySem PySem.Spec PyProof.Rows L2
theorem turnedN {X : Cx} {pins : List (Addr × Obj)} {σ : L2.St} {H : Hp} {s : Shared} {h' : Heap} {t' : Nat} {fp : List Addr} (I : Inv X pins σ H s) (k : ∀ b o, b ∉ fp → s.heap.get? b = some o → h'.get? b = some o) (hf : ∀ b ∈ fp, FpOk X pins H b) : Inv X pins σ H { s with heap := h', toks := t' } := by
  have nit : ∀ b u, H b = some u → b ∉ fp := fun b u e z => by rw [(hf b z).1] at e; cases e
  have hL : X.env.locals ∉ fp := fun z => (hf _ z).2.1 rfl
  refine I.step (g' := s.gens) (d' := s.drawn) (ch := fp) (fun b hb => ?_) (fun b o _ _ hc e _ => k b o hc e) (fun b o _ _ hc e _ => ⟨o.slots, k b o hc e⟩) (fun _ _ _ _ n => n)
    (fun b o hc e => ⟨o, k b o hc e⟩) (fun _ _ e => e) (fun _ _ _ e => e) (fun b ps e => ⟨#[], by rw [e]; simp⟩) (fun m hm => ?_) (fun b u e => ?_) I.bare
  · obtain ⟨_, f1, _, f3, f4, f5⟩ := hf b hb
    exact ⟨f3, f1, f4, f5⟩
  · obtain ⟨o, es, ep, ho, r⟩ := hm
    exact ⟨o, es, ep, k _ o hL ho, r⟩
  · refine (I.hok b u e).stay (fun c v hc q => k c v ?_ q) (fun _ q => q) fun _ _ q => q
    rcases hc with z | z
    · rw [z]; exact nit b u e
    · exact nit c _ z
section
variable {X : Cx} {pos : Pos}
end
end D
namespace D
open PySem PySem.Spec PyProof.Rows L2
section
variable {X : Cx} {pos : Pos}
noncomputable def forT (i j : Nat) (body : FS) : List PyData → FS
  | [] => fNext
  | .tuple [a, b] :: r => fun ρ T => bnd (body ((ρ.set i (some (.d a))).set j (some (.d b))) T) fun p T1 => match p with
    | (.nx, ρ1) => forT i j body r ρ1 T1
    | (.ct, ρ1) => forT i j body r ρ1 T1
    | (.bk, ρ1) => some ((.nx, ρ1), T1)
    | (.rt x, ρ1) => some ((.rt x, ρ1), T1)
    | (.ro x, ρ1) => some ((.ro x, ρ1), T1)
  | _ => fun _ _ => none
noncomputable def fForT (i j : Nat) (it : FI) (body : FS) : FS := fun ρ T => bnd (it ρ T) fun ds T1 => forT i j body ds ρ T1
theorem ds_forT {i j : Nat} {x y : Str} {iter : Expr} {f : FS} {body : List Stmt} {n : Nat} {px py tpos : Pos} {it : FI} (hN : X.N.Nodup) (hi : DI X (.Tuple [.Name x px, .Name y py] n tpos) iter it) (hb : DSs X body f) (hix : X.N[i]? = some x := by rfl) (hjx : X.N[j]? = some y := by rfl) (hx : Loc X.env.scope x := by first | exact Or.inl rfl | exact Or.inr rfl) (hy : Loc X.env.scope y := by first | exact Or.inl rfl | exact Or.inr rfl)
    (hf : X.fn x = true ∨ X.env.scope.names.lookup x = some .local := by first | exact .inl rfl | exact .inr rfl | assumption) (hf' : X.fn y = true ∨ X.env.scope.names.lookup y = some .local := by first | exact .inl rfl | exact .inr rfl | assumption) (hp : PassesOwn (model X.prog X.w) X.A X.env X.xe := by exact PassesOwn.never) (hc : X.calm = true := by rfl)
    (hs : ∀ x, foldedSetIterable iter X.env x = pure x := by intro _; rfl) : DS X (.For (.Tuple [.Name x px, .Name y py] n tpos) iter body [] pos) (fForT i j it f) := by
  refine ⟨?_⟩
  refine ps_imp (ps_for hp hc hi.pe (pg_tup hc (pgs_cons (pg_name hN hix hx hf) (pgs_cons (pg_name hN hjx hy hf') pgs_nil))) hb.pe hs) fun D σ H => ?_
  rintro ⟨O₀, H₀, F, ts, O, ρ, T, fl, ρ', T', rs, e, q⟩
  obtain ⟨ds, T1, e1, e⟩ := bnd_of e
  refine ⟨O, ts, ρ, T, ds, T1, rs.hc, rs.re, e1, fun J H1 s1 hc1 ok hz => ?_⟩
  refine ⟨fun k m σ H => m = ds.length - k ∧ k ≤ ds.length ∧ ∃ O' ρk Tk, RS X.K O₀ H₀ ((O, H1) :: F) ts O' H σ ρk Tk ∧ forT i j f (ds.drop k) ρk Tk = some ((fl, ρ'), T'), ⟨_, rfl, Nat.zero_le _, O, ρ, T1, (rs.step s1 hc1).more, e⟩, ?_⟩
  rintro k m σ2 H2 ⟨rfl, hk, O', ρk, Tk, rs2, ek⟩
  obtain ⟨k1, k2, k3⟩ := ok O' H2 (rs2.frs _ List.mem_cons_self)
  by_cases hlt : k < ds.length
  · refine .inr ⟨k1 k hlt, fun σ3 H3 => ∃ O' ρk Tk, RS X.K O₀ H₀ ((O, H1) :: F) ts O' H3 σ3 ρk Tk ∧ forT i j f (ds.drop (k + 1)) ρk Tk = some ((fl, ρ'), T'), fun σ3 H3 n => ⟨ds.length - (k + 1), by omega, rfl, hlt, n⟩, fun v H3 y => ?_⟩
    obtain ⟨e2, d, hd, rd⟩ := k3 k v H3 y hlt
    subst e2
    have hdr : ds.drop k = d :: ds.drop (k + 1) := by rw [List.drop_eq_getElem_cons hlt, (List.getElem?_eq_some_iff.mp hd).2]
    rw [hdr] at ek
    generalize ds.drop (k + 1) = rest at ek ⊢
    have hab : ∃ a b, d = .tuple [a, b] := by
      match d, ek with
      | .tuple [a, b], _ => exact ⟨a, b, rfl⟩
      | .tuple [], ek => cases ek
      | .tuple [_], ek => cases ek
      | .tuple (_ :: _ :: _ :: _), ek => cases ek
      | .none, ek => cases ek
      | .bool _, ek => cases ek
      | .int _, ek => cases ek
      | .str _, ek => cases ek
      | .list _, ek => cases ek
      | .dict _, ek => cases ek
    obtain ⟨a, b, rfl⟩ := hab
    cases rd with
    | tup t r =>
    cases r with
    | cons ra r =>
    cases r with
    | cons rb r =>
    cases r
    obtain ⟨⟨fl1, ρ1⟩, T3, e3, ek⟩ := bnd_of ek
    refine ⟨_, _, rfl, t.sq, rfl, _, _, rfl, _, _, rfl, rfl, O₀, H₀, (O, H1) :: F, ts, O', _, Tk, fl1, ρ1, T3, (rs2.set (i := i) (w := .d a) ra (fun _ z => nomatch z)).set (i := j) (w := .d b) rb (fun _ z => nomatch z), e3, ?_⟩
    cases fl1 with
    | nx => exact fun O3 σ3 H3 rs3 => ⟨O3, ρ1, T3, rs3, ek⟩
    | ct => exact fun O3 σ3 H3 rs3 => ⟨O3, ρ1, T3, rs3, ek⟩
    | bk =>
      cases ek
      exact fun O3 σ3 H3 rs3 => q O3 σ3 H3 rs3.less
    | rt x =>
      cases ek
      exact q
    | ro x =>
      cases ek
      exact q
  · have e : k = ds.length := by omega
    subst e
    rw [List.drop_eq_nil_of_le (Nat.le_refl _)] at ek
    cases ek
    exact .inl ⟨k2, q O' σ2 H2 rs2.less⟩
end
end D
namespace D
open PySem PySem.Spec PyProof.Rows L2
section
variable {X : Cx}
theorem mt_insert : MtM X "list.insert" (fun x vs H Q => ∃ (l : Addr) (xs : List V) (i : Int) (k : Nat) (y : V), x = .ref l ∧ vs = [.int i, y] ∧ H l = some (.lst xs) ∧ i.toNat = k ∧ 0 ≤ i ∧ k ≤ xs.length ∧ xs.length ≤ 1000 ∧ Q .non (upd H l (.lst (xs.take k ++ y :: xs.drop k)))) := by
  intro pins s σ H x vs v us Q I rx rv h
  obtain ⟨l, xs, i, k, y, rfl, rfl, hH, hki, hi0, hk, hz, q⟩ := h
  cases rx
  obtain ⟨u, w, rfl, ru, rw'⟩ := vals2 rv
  obtain ⟨t, rfl⟩ := ru
  obtain ⟨z, its, n, r, hl, e⟩ := I.lstM hH
  have hsl : (1001 : Nat) ≤ sizeLine := by decide
  have hfit : Builtin.List.listFitsIndex i = true := fitsIndex_both (by omega) (by omega)
  have hfit' : ¬ (!Builtin.List.listFitsIndex i) = true := by rw [hfit]; exact Bool.false_ne_true
  have hsz : its.toArray.size ≤ sizeLine := by
    rw [List.size_toArray]
    exact Nat.le_trans (by omega) hsl
  clear hfit
  refine call_meets F.slot_list_insert ⟨_, e, rfl⟩ F.entry_list_insert (F.args_list_insert_3 _ _ _) (AutoSeq1.list_insert_list_int_val_1 l its.toArray n i t w hfit' hsz) ⟨e, ?_⟩
  refine ⟨.non, _, I.lset (its' := its.take k ++ w :: its.drop k) hH e ?_ ((r.take k).append (.cons rw' (r.drop k))) ?_, rfl, q⟩
  · have hk' : min k its.length = k := by omega
    have h0 : ¬ (i < 0) := by omega
    simp only [h0, if_false, hki, List.size_toArray, hk']
    apply Array.ext'
    simp
    exact List.take_of_length_le (by simp)
  · refine Nat.le_trans ?_ hsl
    simp only [List.length_append, List.length_take, List.length_cons, List.length_drop]
    omega
variable {pos : Pos} {e e' : Expr} {fe fk : FE}
theorem few2 {e f : Expr} {env : Env} {cpos : Pos} (h : noStar e = true) (h2 : noStar f = true) : ((backTo cpos (starEach [e, f] env)).all (fun x => !x.1) && (backToKw cpos (keywordEach [] env)).all (fun x => x.1.isSome)
      && decide (([e, f] : List Expr).length + ([] : List Keyword).length + (if ([] : List Keyword).isEmpty then 0 else 1) < 30)) = true := by
  rw [star_back h, star_one h2]
  rfl
end
section
variable {K : PySem.W.Frag} {O₀ : Addr → Prop} {H₀ : Hp} {F : List ((Addr → Prop) × Hp)} {ts : List Addr} {O A : Addr → Prop} {H H1 : Hp} {σ : L2.St} {ρ : Rho} {T T1 : Tp}
theorem RS.keep (r : RS K O₀ H₀ F ts O H σ ρ T) (hA : ∀ b, A b → O b) : HC K (fun b => O₀ b ∨ A b) ts H T ∧ Le O H (fun b => O₀ b ∨ A b) H := by
  have le : Le O H (fun b => O₀ b ∨ A b) H := fun a o n e => ⟨fun z => n (z.elim (r.sub a) (hA a)), e⟩
  exact ⟨⟨fun b hb => .inl (r.ots b hb), fun b hb => r.hc.trk b (hb.elim (r.sub b) (hA b)), r.hc.nd, r.hc.len, fun i a xs e1 e2 => (r.hc.tape i a xs e1 e2).mono (fun _ h => h) le⟩, le⟩
end
section
variable {X : Cx} {pos : Pos}
end
inductive SpOP (K : PySem.W.Frag) (n : Nat) (m : FnM) (vs : List V) (H : Hp) (Q : VK) : Prop where
  | mk (O : Addr → Prop) (ts : List Addr) (T : Tp) (ws : List W) (x : PyData) (T' : Tp) (hc : HC K O ts H T) (r : RepWs K O ts H vs ws) (hl : ws.length = n) (e : m ws T = some (x, T'))
    (q : ∀ (A : Addr → Prop) v H', SameX ts H H' → (∀ b, A b → H b = none ∧ ¬ O b) → HC K (fun b => O b ∨ A b) ts H' T' → OwnV K (fun b => O b ∨ A b) A H' v x → Q v H') : SpOP K n m vs H Q
section
variable {X : Cx} {pos : Pos}
end
end D
namespace D
open PySem PySem.Spec PyProof.Rows L2
section
variable {X : Cx}
noncomputable def inGM : PyData → PyData → Option PyData
  | x, .list ys => if SeqAt.shaped x = true ∧ ys.all SeqAt.shaped = true then some (.bool (ys.any fun y => PyData.eqv y x)) else none
  | _, _ => none
theorem op_inGM {k : Nat} (hr : Room k X.A) : OpR X (compareOp .In) (fun x y H Q => ∃ O d1 a vs ds, Vw X.K O H x d1 ∧ y = .ref a ∧ SqL X.K H a vs ∧ Reps X.K O H vs ds ∧ SeqAt.shaped d1 = true ∧ ds.all SeqAt.shaped = true ∧ Q (.bl (ds.any fun y => PyData.eqv y d1)) H) := by
  intro pins s σ H x y v u Q I rx ry h
  obtain ⟨O, d1, a, vs, ds, h1, rfl, h2, h3, s1, s2, q⟩ := h
  cases ry
  obtain ⟨as, r1⟩ := h1.reads I rx
  obtain ⟨its, rv, p1, _⟩ := I.list h2
  obtain ⟨bs, r2, _⟩ := h3.reads I rv
  refine SeqAt.in_listAt (eqBy s.heap d1) p1.isList (fun y hy => ?_) ?_
  · obtain ⟨d, cs, hd, rd⟩ := readsAll_mem r2 (by simpa using hy)
    rw [eqBy_of rd]
    have sd := List.all_eq_true.mp s2 d hd
    refine SeqAt.eqAt_reads d d1 _ s y v _ _ rd r1 (SeqAt.canLay_of_shaped sd) (SeqAt.canLay_of_shaped s1) (SeqAt.room_of_shaped sd ?_)
    have := hr.un
    show X.A.in1.units + 64 < cLine
    have e : X.A.in1.units ≤ X.A.units + 1 := by simp [Around.in1]
    omega
  · have e : its.toArray.any (eqBy s.heap d1) = ds.any fun y => PyData.eqv y d1 := by
      rw [← eqBy_any r2]
      simp
    rw [e]
    exact ⟨.bl _, H, I, rfl, q⟩
theorem o_inGM {k : Nat} (hr : Room k X.A) : OpD X (compareOp .In) inGM := ⟨_, op_inGM hr, fun O ts H T v1 v2 x y d Q hc h1 h2 e q => by
  unfold inGM at e
  split at e
  · split at e
    · rename_i h
      cases e
      obtain ⟨a, vs, rfl, t, r⟩ := h2.lst
      exact ⟨O, x, a, vs, _, h1, rfl, t, r, h.1, h.2, q _ H (.refl _ _) hc (.bl _)⟩
    · cases e
  · cases e⟩
noncomputable abbrev FP := Rho → Tp → Option (List (Str × PyData) × Tp)
noncomputable def dctOf (l : List (Str × PyData)) : List (PyData × PyData) := l.map fun p => (.str p.1, p.2)
noncomputable def keyS (p : Str × V) : Key × V := (Sum.inr p.1, p.2)
structure DP (X : Cx) (pos : Pos) (keys : List (Option Expr)) (values : List Expr) (g : FP) : Prop where
  ex : ∃ trs, PPs X pos keys values trs ∧ ∀ (σ : L2.St) (H : Hp) (Q : List (V × V) → Hp → Prop) (O : Addr → Prop) (ts : List Addr) (ρ : Rho) (T : Tp) (l : List (Str × PyData)) (T' : Tp), HC X.K O ts H T → RelE X.K O ts H σ ρ → g ρ T = some (l, T') →
    (∀ (kvs : List (Str × V)) (H' : Hp), SameX ts H H' → HC X.K O ts H' T' → kvs.map (·.1) = l.map (·.1) → RepK X.K O H' (kvs.map keyS) (dctOf l) → Q (kvs.map fun p => (V.str p.1, p.2)) H') → tPairs trs σ H Q
end
end D
namespace D
open PySem PySem.Spec PyProof.Rows L2
section
variable {X : Cx} {pos : Pos}
end
end D
namespace D
open PySem PySem.Spec PyProof.Rows L2
section
variable {X : Cx} {pos : Pos} {rest : List Stmt} {fr : FS}
end
end D
namespace D
open PySem PySem.Spec PyProof.Rows L2
section
variable {X : Cx} {pos : Pos}
end
end D
namespace D
open PySem PySem.Spec PyProof.Rows L2
end D
namespace D
open PySem PySem.Spec PyProof.Rows L2
section
set_option maxRecDepth 100000
variable {prog : Program} {w : World} {K : Type} [DecidableEq K] {knd : KeyKind prog w K} {A : Around} {E : Value → Shared → Prop} {s : Shared}
end
end D
namespace D
open PySem PySem.Spec PyProof.Rows L2
section
variable {X : Cx}
end
end D
namespace D
open PySem PySem.Spec PyProof.Rows L2
section
set_option maxRecDepth 100000
variable {prog : Program} {w : World} {A : Around} {E : Value → Shared → Prop} {s : Shared}
end
section
set_option maxRecDepth 100000
variable {X : Cx}
end
end D
namespace D
open PySem PySem.Spec PyProof.Rows L2
section
variable {X : Cx}
end
end D
namespace D
open PySem PySem.Spec PyProof.Rows L2
section
set_option maxRecDepth 100000
variable {X : Cx}
end
end D
namespace XE
open PySem PySem.Spec PyProof.Rows L2
noncomputable abbrev vE : List Value := [.type "ValueError", .type "Exception", .type "BaseException", .type "object"]
noncomputable def XCl (K : PySem.W.Frag) (C : Addr) (tl : List Value) : Prop :=
  ∃ nm q N bs sn sub ab col dd k0 k1 k2 k3 k5, K.lookup C = some (excClassObj nm q C N bs tl true sn sub ab col dd k0 k1 k2 k3 k5 "ValueError.__new__") ∧ PySem.W.nsOkIn K N = true
theorem tail_of {K : PySem.W.Frag} {h : Heap} {R : Addr} (X : K.In h) (r : XCl K R vE) (ri : PySem.W.ownIn K "__init__" (.ref R) = some none) : OwnTail h vE (.ref R :: vE) := by
  obtain ⟨nm, q, N, bs, sn, sub, ab, col, dd, k0, k1, k2, k3, k5, l, n⟩ := r
  refine .own (X _ _ l) (.of_isNs (PySem.W.isNs_of_in X n)) (PySem.W.nsMap_none_of_in X n ?_) .base
  simp only [PySem.W.ownIn] at ri
  rw [l] at ri
  exact ri
section
variable {prog : Program} {w : World} {A : Around} {E : Value → Shared → Prop} {h : Heap} {g : Array GenState} {d : Drawn} {t : Nat} {os : OsState} {K : PySem.W.Frag} {C R fI : Addr}
theorem xcall {us : List Value} {Q : Value → Shared → Prop} (X : K.In h) (c : XCl K C (.ref R :: vE)) (r : XCl K R vE) (ri : PySem.W.ownIn K "__init__" (.ref R) = some none)
    (hi : PySem.W.findIn K (.ref C) "__init__" = some (some (.ref fI))) (hf : PySem.W.isFn K (.ref fI) = true) (hz : us.length ≤ sizeLine)
    (k : ∀ h' e, Heap.MadeExcOf h h' e (.ref C) us → h.objs.size ≤ e → wpAny (model prog w) (A.under (.builtin "type.__call__" ⟨.ref C :: us, []⟩)) (call (.ref fI) (.ref e :: us)) (fun v s' => v = .none ∧ Q (.ref e) s') E ⟨h', g, d, t, os⟩) :
    wpAny (model prog w) A (call (.ref C) us) Q E ⟨h, g, d, t, os⟩ := by
  have T := tail_of X r ri
  obtain ⟨nm, q, N, bs, sn, sub, ab, col, dd, k0, k1, k2, k3, k5, l, _⟩ := c
  have hC := X _ _ l
  have FB := PySem.F.excBase_ValueError
  have f1 := tc_lookup
  have f2 := tc_bind (.ref C)
  have hT : (⟨h, g, d, t, os⟩ : Shared).TypeIs (.ref C) "type" := ⟨_, hC, rfl⟩
  refine wpAny_call (codeAny_of_tree ?_)
  show wpAny _ _ (callAny (.ref C) _) _ _ _
  repeat (any_goals (first | assumption | with_reducible refine wpAny_loadPart_at hC ?_ | wp_step))
  refine ⟨rfl, codeAny_call_builtin_at (Code.quiet_builtin _ (by decide +kernel)) entry_typeCall (wpAny_check_type_call_sub hC ?_)⟩
  repeat (first | with_reducible refine wpAny_loadPart_at hC ?_ | with_reducible refine wpAny_madeBy_exc hC ?_ | wp_step)
  refine codeAny_call_builtin_code (Code.quiet_builtin _ FB.quiet) (wpAny_check_new_subU FB (by decide +kernel) T hC (codeAny_exc_new_subU FB (by decide +kernel) FB T hC ?_ hz))
  show wpAny _ _ _ _ _ _
  have up : ∀ b o, h.get? b = some o → ((h.push { cls := .type "tuple", data := .seq us.toArray }).push { cls := .ref C, data := .fields #[.ref h.objs.size, .none, .none, .none, .bool false, .none] }).get? b = some o :=
    fun b o e => Heap.get?_push_of_some _ (Heap.get?_push_of_some _ e)
  have at1 : ((h.push { cls := .type "tuple", data := .seq us.toArray }).push { cls := .ref C, data := .fields #[.ref h.objs.size, .none, .none, .none, .bool false, .none] }).get? (h.objs.size + 1)
      = some { cls := .ref C, data := .fields #[.ref h.objs.size, .none, .none, .none, .bool false, .none] } := by heap_get
  have hC1 := up _ _ hC
  have cc : (Value.ref C :: Value.ref R :: vE).contains (.ref C) = true := by simp
  have mk := k _ (h.objs.size + 1) ⟨up, Heap.get?_none_of_le (Nat.le_succ _), h.objs.size, at1, Heap.get?_none_of_le (Nat.le_refl _), Heap.get?_push_of_some _ (Heap.get?_push_at rfl rfl)⟩ (Nat.le_succ _)
  unfold isInstance
  repeat (first | with_reducible refine wpAny_loadPart_at at1 ?_ | wp_step)
  refine wpAny_isSubtype_exc hC1 ?_
  rw [cc]
  repeat (first | with_reducible refine wpAny_loadPart_at at1 ?_ | wp_step)
  show wpAny _ _ (typeLookup (.ref C) _) _ _ _
  refine PySem.W.looks_findIn (X.keeps up) hi _ _ _ _ (fun _ _ e => e) ?_
  refine wpAny_holding (wpAny_bind ?_)
  refine PySem.W.bind_fn (X.keeps up) _ (by simpa [PySem.W.isFn] using hf) _ _ _ _ (fun _ _ e => e) ?_
  refine wpAny_bind (wpAny_mono mk (fun v s' hv => ?_) fun _ _ z => z)
  obtain ⟨rfl, q'⟩ := hv
  wp_walk
  exact q'
end
end XE
namespace XE
open PySem PySem.Spec PyProof.Rows L2
noncomputable def XAt (e C : Addr) (od : Option Addr) : Heap → Prop := fun h => ∃ t, h.get? e = some { cls := .ref C, dict := od, data := .fields #[.ref t, .none, .none, .none, .bool false, .none] }
theorem XAt.stay {e C : Addr} {od : Option Addr} {h1 h2 : Heap} (x : XAt e C od h1) (k : ∀ o, h1.get? e = some o → h2.get? e = some o) : XAt e C od h2 := let ⟨t, y⟩ := x; ⟨t, k _ y⟩
theorem XAt.ok {P : Program} {w : World} {H : Hp} {e C : Addr} {od : Option Addr} {h : Heap} (x : XAt e C od h) : ObjOk P w H h e (.ext (XAt e C od)) := ⟨x, let ⟨_, y⟩ := x; ⟨_, y⟩, fun _ _ a k => a.stay k⟩
theorem XAt.of {P : Program} {w : World} {H : Hp} {e C : Addr} {od : Option Addr} {h : Heap} (ok : HOk P w H h) (x : H e = some (.ext (XAt e C od))) : XAt e C od h := (ok _ _ x).1
section
variable {X : Cx} {C R : Addr}
theorem getm_init {K : PySem.W.Frag} {prog : Program} {w : World} {A : Around} {E : Value → Shared → Prop} {s : Shared} {pl : Sem Bool} {Q : Value × List Value → Shared → Prop} (x : K.In s.heap) (hr : PySem.W.readsIn K R (.type "type") = true)
    (hf : PySem.W.findCls K (.ref R) (.type "type") "__init__" = some (.val (.builtin "ValueError.__init__"))) (q : Q (.builtin "ValueError.__init__", []) { s with toks := s.toks + 1 }) :
    wpAny (model prog w) A (getMethod (.ref R) "__init__" pl) Q E s := by
  have hr' := hr
  simp only [PySem.W.readsIn, Bool.and_eq_true, beq_iff_eq] at hr'
  obtain ⟨⟨⟨⟨_, b⟩, c⟩, _⟩, _⟩ := hr'
  have hc : (Manifest.canonical "type.__getattribute__" != "object.__getattribute__") = true := by decide +kernel
  unfold getMethod specialOf
  refine wpAny_bind (wpAny_bind (PySem.W.looks_typeIn x b _ _ _ _ (fun _ _ e => e) (PySem.W.looks_findIn x c _ _ _ _ (fun _ _ e => e) ?_)))
  simp only [hc, if_true]
  exact wpAny_bind (PySem.W.cls_value x hr hf rfl (wpAny_pure q))
noncomputable def tIni (C : Addr) (tt : TE) : TE := fun σ H Q => ∃ e, σ[0]? = some (some (.ref e)) ∧ tt σ H fun _ H1 => H1 e = some (.ext (XAt e C none)) ∧ Q .non H1
theorem pe_ini {p p2 ap pos : Pos} {tx : Expr} {tt : TE} {rn sn : Str} (c : XCl X.K C (.ref R :: vE)) (r : XCl X.K R vE) (ri : PySem.W.ownIn X.K "__init__" (.ref R) = some none) (hg : Gl X rn) (hm : X.mg rn = some (.ref R))
    (hr : PySem.W.readsIn X.K R (.type "type") = true) (hf : PySem.W.findCls X.K (.ref R) (.type "type") "__init__" = some (.val (.builtin "ValueError.__init__"))) (hs : PE X (.Name sn p2) (tVar 0)) (ht : PE X tx tt)
    (hd : (rn == ("__debug__" : Str)) = false := by decide) (hst : starEach [.Name sn p2, tx] X.env = [(false, eval (.Name sn p2) X.env), (false, eval tx X.env)] := by rfl) (hs2 : starEach [tx] X.env = [(false, eval tx X.env)] := by rfl)
    {pl : Sem Bool} (he : eval (.Call (.Attribute (.Name rn p) "__init__" ap) [.Name sn p2, tx] [] pos) X.env = (do
      let ov ← eval (.Name rn p) X.env
      standAt ap.atName
      let (f, first) ← holding [ov] (getMethod ov "__init__" pl)
      callWith pos f first (backTo pos (starEach [.Name sn p2, tx] X.env)) (backToKw pos (keywordEach [] X.env))) := by rfl) :
    PE X (.Call (.Attribute (.Name rn p) "__init__" ap) [.Name sn p2, tx] [] pos) (tIni C tt) := by
  intro pins s σ H Q I h
  obtain ⟨e, h0, h⟩ := h
  refine PySem.W.methodCall_KW (pl := pl) (ld_glob I hg hm ?_ hd) he
  refine getm_init I.kIn hr hf ?_
  have I0 := I.tok (s.toks + 1)
  have pa : PA X [.Name sn p2, tx] (tCons (tVar 0) (tCons tt tNil)) := pa_cons hs (pa_cons ht pa_nil (by rw [hs2]; rfl)) (by rw [hst, hs2])
  have hA := pa pos pins _ σ H (fun vs H1 => match vs with
    | [.ref a, _] => H1 a = some (.ext (XAt a C none)) ∧ Q .non H1
    | _ => False) I0 ⟨_, h0, h⟩
  rw [hst] at hA ⊢
  refine Calls.callWith_builtin rfl (Calls.evalArgs_plain (thn hA fun us s2 ⟨vs, H2, I2, r2, q2⟩ => ?_))
  dsimp only at q2
  split at q2
  · rename_i a v
    obtain ⟨hx, q⟩ := q2
    obtain ⟨u0, us1, rfl, r0, r3⟩ : ∃ x b, us = x :: b ∧ RelV (.ref a) x ∧ Vals [v] b := by cases r2 with | cons a b => exact ⟨_, _, rfl, a, b⟩
    obtain ⟨u1, us2, rfl, r1, r4⟩ : ∃ a b, us1 = a :: b ∧ RelV v a ∧ Vals [] b := by cases r3 with | cons a b => exact ⟨_, _, rfl, a, b⟩
    cases r4
    obtain rfl : u0 = Value.ref a := r0
    obtain ⟨t, hat⟩ := XAt.of I2.hok hx
    have T := tail_of I2.kIn r ri
    obtain ⟨nm, qn, N, bs, sn, sub, ab, col, dd, k0, k1, k2, k3, k5, l, _⟩ := c
    have hC := I2.kIn _ _ l
    have FB := PySem.F.excBase_ValueError
    have up : ∀ b o, s2.heap.get? b = some o → (s2.heap.push { cls := .type "tuple", data := .seq [u1].toArray }).get? b = some o := fun b o e => Heap.get?_push_of_some _ e
    have fin : ∀ (h' : Heap) (tk : Nat), (∀ b o, b ≠ a → s2.heap.get? b = some o → h'.get? b = some o) → XAt a C none h' → EP X pins σ Q .none { s2 with heap := h', toks := tk } := fun h' tk k1 k2 => by
      have e1 : upd H2 a (.ext (XAt a C none)) = H2 := by
        funext b
        by_cases e : b = a
        · rw [e, upd_same, hx]
        · rw [upd_ne e]
      have I3 := I2.write (x := a) (e := a) (o := .ext (XAt a C none)) (h' := h') (t' := tk) (by rw [hx]; trivial) (.inl rfl) k1 (let ⟨_, y⟩ := k2; ⟨_, y⟩) (XAt.ok k2)
      rw [e1] at I3
      exact ⟨.non, H2, I3, rfl, q⟩
    obtain ⟨hp, g, d, tk, os⟩ := s2
    show wpAny _ _ (call (.builtin "ValueError.__init__") [.ref a, u1]) _ _ _
    refine wpAny_call (codeAny_call_builtin FB.init.plain FB.initEntry (wpAny_check_init_subU FB T hC hat rfl ?_))
    wp_walk
    refine fin _ _ (fun b o hb e => ?_) ⟨hp.objs.size, ?_⟩
    · rw [Heap.get?_update_other _ _ (Ne.symm hb)]
      exact up b o e
    · rw [Heap.get?_update_self _ (up _ _ hat) rfl]
      rfl
  · exact False.elim q2
end
section
open Builtin Builtin.ObjectAttr
variable {prog : Program} {w : World} {A : Around} {E : Value → Shared → Prop} {h : Heap} {g : Array GenState} {d : Drawn} {t : Nat} {os : OsState} {K : PySem.W.Frag} {C R e : Addr} {name : Str} {v : Value} {vs : Array Value}
theorem xset {Q : Unit → Shared → Prop} (X : K.In h) (c : XCl K C (.ref R :: vE)) (hs : PySem.W.findIn K (.ref C) "__setattr__" = some (some (.builtin "object.__setattr__"))) (hn : PySem.W.findIn K (.ref C) name = some none)
    (he : h.get? e = some { cls := .ref C, data := .fields vs })
    (k : ∀ h' tk, h'.get? e = some { cls := .ref C, dict := some h.objs.size, data := .fields vs } → h'.Ns1 h.objs.size (fun y => if y = name then some v else none) → (∀ b o, b ≠ e → h.get? b = some o → h'.get? b = some o) → Q () ⟨h', g, d, tk, os⟩) :
    wpAny (model prog w) A (setAttr (.ref e) name v) Q E ⟨h, g, d, t, os⟩ := by
  obtain ⟨nm, q, N, bs, sn, sub, ab, col, dd, k0, k1, k2, k3, k5, l, _⟩ := c
  have hC := X _ _ l
  have SF := PySem.F.store_ValueError
  have hpass := SF.passes (.ref e)
  have f3 := SF.slot.bind (.ref e)
  have hO : (Value.ref C :: Value.ref R :: vE).contains (.type "object") = true := by simp
  unfold setAttr callSpecial? specialOf
  repeat (any_goals (first | assumption | with_reducible refine wpAny_loadPart_at he ?_ | wp_step))
  refine PySem.W.looks_findIn X hs _ _ _ _ (fun _ _ e => e) ?_
  repeat (any_goals (first | assumption | wp_step))
  refine codeAny_call_builtin SF.slot.plain SF.entry ?_
  have chk : ∀ {M : Model} {A : Around} {Q : Unit → Shared → Prop} {E : Value → Shared → Prop} {tk t : Nat}, Q () ⟨h, g, d, t, os⟩ → wpAny M A (checkBuiltinCall "object.__setattr__" ⟨[.ref e, .str name tk, v], []⟩) Q E ⟨h, g, d, t, os⟩ := by
    intro M A Q E tk t hq
    have ha := SF.args (.ref e) (.str name tk) v
    simp only [checkBuiltinCall, SF.kind, SF.split]
    refine wpAny_bind ?_
    unfold isInstance
    repeat (first | with_reducible refine wpAny_loadPart_at he ?_ | wp_step)
    refine wpAny_isSubtype_exc hC ?_
    rw [hO]
    repeat wp_step
    exact hq
  refine chk ?_
  unfold Builtin.«object.__setattr__»
  repeat (first | rw [refuse_eq] | (rw [refuseLoop_ref, refuseLoop_ref, hpass]) | with_reducible refine wpAny_loadPart_at he ?_ | refine wpAny_mroOf_exc hC ?_ | wp_step)
  refine PySem.W.looks_findIn X hn _ _ _ _ (fun _ _ e => e) ?_
  have up : (h.push { cls := .type "dict", data := .dict #[] }).get? e = some { cls := .ref C, data := .fields vs } := Heap.get?_push_of_some _ he
  have ne : e ≠ h.objs.size := Nat.ne_of_lt (Heap.lt_size he)
  have gd : ((h.push { cls := .type "dict", data := .dict #[] }).update e fun o => { cls := o.cls, dict := some h.objs.size, data := o.data, slots := o.slots }).get? h.objs.size = some { cls := .type "dict", data := .dict #[] } :=
    (Heap.get?_update_ne _ _ _ _ ne.symm).trans (Heap.get?_push_at rfl rfl)
  have nd : ((h.push { cls := .type "dict", data := .dict #[] }).update e fun o => { cls := o.cls, dict := some h.objs.size, data := o.data, slots := o.slots }).Ns h.objs.size (fun _ => none) :=
    ⟨_, #[], _, gd, rfl, fun _ z => absurd z (by simp), fun _ => rfl⟩
  repeat (first | with_reducible refine wpAny_loadPart_at he ?_ | with_reducible refine wpAny_nsSet1 (Heap.Ns1.of_empty nd) fun h' hn' hs' => ?_ | wp_step)
  obtain ⟨oD, es, ep, hoD, hdD, hcD⟩ := hn'.count (Within.cons name v Within.nil)
  refine wpAny_loadPart hoD ?_
  rw [hdD, pastItsLine_dict (Nat.le_trans hcD (by rw [List.length_cons, List.length_nil, sizeLine_eq]; omega))]
  repeat wp_step
  refine k h' _ ((hs'.2 e ne).trans (Heap.get?_update_self _ up rfl)) hn' fun b o hb z => ?_
  exact (hs'.2 b (Nat.ne_of_lt (Heap.lt_size z))).trans ((Heap.get?_update_ne _ _ _ _ hb).trans (Heap.get?_push_of_some _ z))
end
end XE
namespace XE
open PySem PySem.Spec PyProof.Rows L2
theorem push_old {h : Heap} {o u : Obj} {b : Addr} (ne : b ≠ h.objs.size) (z : (h.push o).get? b = some u) : h.get? b = some u := by
  obtain ⟨z1, z2⟩ := Heap.get?_some_iff.mp z
  refine Heap.get?_some_iff.mpr ⟨?_, z2⟩
  have z3 : (h.objs.push o)[b]? = some u := z1
  rw [Array.getElem?_push, if_neg ne] at z3
  exact z3
section
variable {X : Cx} {C R : Addr}
noncomputable def sXf (C : Addr) (i : Nat) (tv : TE) (f : Str) : TS := fun D σ H => tv σ H fun y H1 => ∃ a, σ[i]? = some (some (.ref a)) ∧ H1 a = some (.ext (XAt a C none)) ∧
  ∀ dx, H1 dx = none → dx ≠ a → D.nx σ (upd (upd H1 dx (.xd [(f, y)])) a (.ext (XAt a C (some dx))))
theorem ps_xf {i : Nat} {o value : Expr} {tv : TE} {f : Str} {pos pos' : Pos} (c : XCl X.K C (.ref R :: vE)) (hs : PySem.W.findIn X.K (.ref C) "__setattr__" = some (some (.builtin "object.__setattr__"))) (hn : PySem.W.findIn X.K (.ref C) f = some none)
    (ho : PE X o (tVar i)) (hv : PE X value tv) (hw : swapsWith value (some (.Attribute o f pos')) pos.line X.env = pure false := by rfl) : PS X (.Assign [.Attribute o f pos'] value pos) (sXf C i tv f) := by
  intro pins s σ H D I h
  refine plainObj_wpAny_Assign_Attribute (thn (hv pins s σ H _ I h) fun u s1 ⟨y, H1, I1, ry, a, h0, ha, q⟩ => thn (ho pins s1 σ H1 (fun v H' => v = .ref a ∧ H' = H1) I1 ⟨_, h0, rfl, rfl⟩) fun ov s2 ⟨x, H2, I2, rx, ex, eh⟩ => ?_) hw
  subst ex eh
  obtain rfl : ov = Value.ref a := rx
  obtain ⟨t, hat⟩ := XAt.of I2.hok ha
  obtain ⟨hp, g, d, tk, os⟩ := s2
  refine xset (v := u) I2.kIn c hs hn hat fun h' tk' k1 k2 k3 => ?_
  have fr : H2 hp.objs.size = none := I2.hok.fresh (Nat.le_refl _)
  have ne : hp.objs.size ≠ a := Nat.ne_of_gt (Heap.lt_size hat)
  obtain ⟨od, es, ep, e1, e2⟩ := k2
  have nf := (Heap.get?_some_iff.mp e1).2
  have up : ∀ b o, hp.get? b = some o → (hp.push od).get? b = some o := fun b o z => Heap.get?_push_of_some _ z
  have I3 := I2.laid (h' := hp.push od) (a := hp.objs.size) (o := .xd [(f, y)]) (t' := tk') up (Nat.le_refl _) ⟨_, ⟨od, es, ep, Heap.get?_push_at rfl nf, e2⟩, fun z => by
    show RelO (List.lookup z [(f, y)]) (if z = f then some u else none)
    simp only [List.lookup]
    by_cases q : z = f
    · subst q; simp; exact ry
    · rw [if_neg q]
      have : (z == f) = false := by simpa using q
      rw [this]
      trivial⟩
  have I4 := I3.write (x := a) (e := a) (o := .ext (XAt a C (some hp.objs.size))) (h' := h') (t' := tk') (by rw [upd_ne ne.symm, ha]; trivial) (.inl rfl) (fun b u hb z => ?_) ⟨_, k1⟩ (XAt.ok ⟨t, k1⟩)
  · exact ⟨σ, _, I4, q _ fr ne⟩
  · by_cases e : b = hp.objs.size
    · subst e
      have z' : (hp.push od).get? hp.objs.size = some u := z
      rw [Heap.get?_push_at rfl nf] at z'
      cases z'
      exact e1
    · refine k3 b u hb ?_
      exact push_old e z
end
end XE
namespace XE
open PySem PySem.Spec PyProof.Rows L2
noncomputable def spI (C : Addr) (f : Str) : Sp := fun vs H Q _ => ∃ a x, vs = [.ref a, .str x] ∧ H a = some (.ext (XAt a C none)) ∧ (reprText x).length + 1000 ≤ sizeLine ∧
  ∀ dx, H dx = none → dx ≠ a → Q .non (upd (upd H dx (.xd [(f, .str x)])) a (.ext (XAt a C (some dx))))
structure XIni (P : Program) (w : World) (K : PySem.W.Frag) (mg : Str → Option Value) (base : Heap) (C R : Addr) (f : Str) (k : Nat) : Prop where
  ex : ∃ fI fd ps, FnOk P w K mg base CX0 k fI fd ps (spI C f) ∧ Binds K fd ps [] ∧ PySem.W.findIn K (.ref C) "__init__" = some (some (.ref fI)) ∧ PySem.W.isFn K (.ref fI) = true
  c : XCl K C (.ref R :: vE)
  r : XCl K R vE
  ri : PySem.W.ownIn K "__init__" (.ref R) = some none
  kp : PySem.W.keepIn K (.ref C) = true
section
variable {X : Cx} {C R : Addr} {f : Str} {k : Nat}
theorem upd_swap_free {H : Hp} {a dx : Addr} {o u v : HO} (h : dx ≠ a) : upd (upd (upd H a o) dx u) a v = upd (upd H dx u) a v := by
  funext b
  unfold upd
  by_cases e : b = a
  · rw [if_pos e, if_pos e]
  · rw [if_neg e, if_neg e, if_neg e]
end
end XE
namespace XE
open PySem PySem.Spec PyProof.Rows L2
structure Kp (xs fs : List Addr) (h h' : Heap) : Prop where
  keep : ∀ b o, h.get? b = some o → b ∉ xs → b ∉ fs → h'.get? b = some o
  slot : ∀ b o, h.get? b = some o → b ∉ xs → b ∈ fs → ∃ sl, h'.get? b = some { o with slots := sl }
  there : ∀ b o, h.get? b = some o → ∃ o', h'.get? b = some o'
theorem Kp.trans {xs fs : List Addr} {h h1 h2 : Heap} (a : Kp xs fs h h1) (b : Kp xs fs h1 h2) : Kp xs fs h h2 where
  keep := fun c o q n m => b.keep c o (a.keep c o q n m) n m
  slot := fun c o q n m => let ⟨_, e⟩ := a.slot c o q n m; let ⟨sl, e2⟩ := b.slot c _ e n m; ⟨sl, e2⟩
  there := fun c o q => let ⟨_, e⟩ := a.there c o q; b.there c _ e
theorem Kp.more {xs ys fs : List Addr} {h h' : Heap} (a : Kp xs fs h h') (k : ∀ x ∈ xs, x ∈ ys) : Kp ys fs h h' :=
  ⟨fun b o q n m => a.keep b o q (fun z => n (k b z)) m, fun b o q n m => a.slot b o q (fun z => n (k b z)) m, a.there⟩
theorem Kp.less {xs ys fs : List Addr} {h h1 h2 : Heap} (k : ∀ b o, h.get? b = some o → h1.get? b = some o) (a : Kp xs fs h1 h2) (n : ∀ x ∈ xs, x ∈ ys ∨ h.get? x = none) : Kp ys fs h h2 := by
  have ne : ∀ b o, h.get? b = some o → b ∉ ys → b ∉ xs := fun b o q m z => by
    rcases n b z with z | z
    · exact m z
    · rw [q] at z; cases z
  exact ⟨fun b o q m1 m2 => a.keep b o (k b o q) (ne b o q m1) m2, fun b o q m1 m2 => a.slot b o (k b o q) (ne b o q m1) m2, fun b o q => a.there b o (k b o q)⟩
theorem Kp.fun_ {xs fs : List Addr} {h h' base : Heap} {l : List Env} (a : Kp xs fs h h') (n : ∀ x ∈ xs, ∃ o vs, h.get? x = some o ∧ o.data = .fields vs) (f : h.FunFrames base l) : h'.FunFrames base l := by
  refine f.of_keeps fun b o q nf => ?_
  have hx : b ∉ xs := fun z => by
    obtain ⟨o', vs, e1, e2⟩ := n b z
    rw [q] at e1
    cases e1
    exact nf vs e2
  by_cases hb : b ∈ fs
  · obtain ⟨sl, e⟩ := a.slot b o q hx hb
    exact ⟨_, e, rfl⟩
  · exact ⟨o, a.keep b o q hx hb, rfl⟩
noncomputable def XR (e C dx : Addr) (tb : Value) (h : Heap) : Prop := ∃ t, h.get? e = some { cls := .ref C, dict := some dx, data := .fields #[.ref t, tb, .none, .none, .bool false, .none] }
noncomputable def TB (T : Addr) (fl : Value) (h : Heap) : Prop := ∃ oT ts, h.get? T = some oT ∧ oT.data = .fields ts ∧ ts[3]? = some fl
section
variable {M : Model} {A : Around} {E : Value → Shared → Prop} {s : Shared} {base : Heap} {env : Env} {outer : List Env} {L e C dx T : Addr}
theorem entry_x {head tb : Value} {hn : Bool} {Q : Unit → Shared → Prop} (hfr : A.frames = some (env :: outer)) (hl : s.heap.FunFrames base (env :: outer)) (hf : env.frame = some L) (hx : XR e C dx tb s.heap)
    (k : ∀ h' T, s.heap.objs.size ≤ T → XR e C dx (.ref T) h' → TB T (rawInt L) h' → T ≠ e → Kp [e] (frs (env :: outer)) s.heap h' → Q () { s with heap := h' }) :
    wpAny M A (do let a ← frameOf env; let pl ← entryPlaceOf L hn; let b ← EntryCells.newEntry head a .none (rawInt L) .none pl; setField (.ref e) 1 b) Q E s := by
  obtain ⟨t, he⟩ := hx
  have hen : e ∉ (env :: outer).filterMap (·.frame) := fun hm => by
    obtain ⟨_, o, ho, hnf⟩ := hl.mem hm
    rw [he] at ho
    cases ho
    exact hnf _ rfl
  refine wpAny_bind (wpAny_frameOf_fun hfr hl hf fun h1 hs => ?_)
  refine wpAny_bind (wpAny_entryPlaceOf fun pl hpl => ?_)
  unfold EntryCells.newEntry newFields
  refine wpAny_bind (wpAny_newObj_type ?_ (hpl.sizeOk5 _ _ _ _ _))
  have he1 := (hs.2.1 e hen).trans he
  generalize eo : (Obj.mk (.type "traceback") none (.fields ([head, .ref L, .none, rawInt L, .none] ++ (if pl.isEmpty then List.replicate 6 Value.none else pl)).toArray) #[]) = oT
  have eT : oT.data = .fields ([head, .ref L, .none, rawInt L, .none] ++ (if pl.isEmpty then List.replicate 6 Value.none else pl)).toArray := by rw [← eo]
  have he2 := Heap.get?_push_of_some (h := h1) oT he1
  refine wpAny_setField he2 rfl (by simp) ?_
  have ne : h1.objs.size ≠ e := Nat.ne_of_gt (Heap.lt_size he1)
  have sz : h1.objs.size = s.heap.objs.size := hs.1
  refine k _ h1.objs.size (by rw [sz]; exact Nat.le_refl _) ⟨t, ?_⟩ ⟨oT, _, ?_, eT, by simp⟩ ne ⟨fun b o q n m => ?_, fun b o q n m => ?_, fun b o q => ?_⟩
  · rw [Heap.get?_update_self _ he2 rfl]
    rfl
  · rw [Heap.get?_update_other _ _ ne.symm]
    exact Heap.get?_push_at rfl (Obj.isFreed_of_fields eT)
  · rw [Heap.get?_update_other _ _ (fun z => n (by simp [z]))]
    exact Heap.get?_push_of_some _ ((hs.2.1 b m).trans q)
  · obtain ⟨sl, q'⟩ := hs.2.2 b o q
    refine ⟨sl, ?_⟩
    rw [Heap.get?_update_other _ _ (fun z => n (by simp [z]))]
    exact Heap.get?_push_of_some _ q'
  · by_cases hb : b = e
    · subst hb
      exact ⟨_, Heap.get?_update_self _ he2 rfl⟩
    · obtain ⟨sl, q'⟩ := hs.2.2 b o q
      exact ⟨_, (Heap.get?_update_other _ _ (Ne.symm hb)).trans (Heap.get?_push_of_some _ q')⟩
theorem note_first {Q : Unit → Shared → Prop} (hfr : A.frames = some (env :: outer)) (hl : s.heap.FunFrames base (env :: outer)) (hf : env.frame = some L) (hx : XR e C dx .none s.heap)
    (k : ∀ h' T, s.heap.objs.size ≤ T → XR e C dx (.ref T) h' → TB T (rawInt L) h' → T ≠ e → Kp [e] (frs (env :: outer)) s.heap h' → Q () { s with heap := h' }) : wpAny M A (noteFrame (.ref e) env) Q E s := by
  obtain ⟨t, he⟩ := id hx
  unfold noteFrame
  simp only [hf]
  refine wpAny_bind (wpAny_field he rfl (x := .none) rfl ?_)
  rw [if_neg (by decide)]
  exact entry_x hfr hl hf hx k
theorem land_x {fl : Value} {Q : Unit → Shared → Prop} (hx : XR e C dx (.ref T) s.heap) (ht : TB T fl s.heap) (ne : T ≠ e) (k : ∀ h', XR e C dx (.ref T) h' → TB T .none h' → Kp [T] [] s.heap h' → Q () { s with heap := h' }) :
    wpAny M A (setFlight (.ref e) none) Q E s := by
  obtain ⟨t, he⟩ := hx
  obtain ⟨oT, ts, hT, hd, h3⟩ := ht
  have sz := (Array.getElem?_eq_some_iff.mp h3).1
  unfold setFlight
  refine wpAny_bind (wpAny_field he rfl (x := .ref T) rfl ?_)
  rw [if_pos (show (Value.ref T != Value.none) = true from by simp)]
  have dt := Obj.data_mapFields hd (·.setIfInBounds 3 Value.none)
  have self := Heap.get?_update_self (Obj.mapFields (·.setIfInBounds 3 Value.none)) hT (Obj.isFreed_of_fields dt)
  refine wpAny_setField hT hd sz (k _ ⟨t, ?_⟩ ⟨_, _, self, dt, by simp [sz]⟩ ⟨fun b o q n _ => ?_, fun b o q n m => absurd m (by simp), fun b o q => ?_⟩)
  · rw [Heap.get?_update_other _ _ ne]
    exact he
  · rw [Heap.get?_update_other _ _ (fun z => n (by simp [z]))]
    exact q
  · by_cases hb : T = b
    · subst hb; exact ⟨_, self⟩
    · exact ⟨o, by rw [Heap.get?_update_other _ _ hb]; exact q⟩
theorem note_on {Q : Unit → Shared → Prop} (hfr : A.frames = some (env :: outer)) (hl : s.heap.FunFrames base (env :: outer)) (hf : env.frame = some L) (hx : XR e C dx (.ref T) s.heap) (ht : TB T .none s.heap) (ne : T ≠ e)
    (k : ∀ h' T', s.heap.objs.size ≤ T' → XR e C dx (.ref T') h' → TB T' (rawInt L) h' → T' ≠ e → Kp [e, T] (frs (env :: outer)) s.heap h' → Q () { s with heap := h' }) : wpAny M A (noteFrame (.ref e) env) Q E s := by
  obtain ⟨t, he⟩ := id hx
  obtain ⟨oT, ts, hT, hd, h3⟩ := id ht
  have sz := (Array.getElem?_eq_some_iff.mp h3).1
  unfold noteFrame
  simp only [hf]
  refine wpAny_bind (wpAny_field he rfl (x := .ref T) rfl ?_)
  rw [if_pos (show (Value.ref T != Value.none) = true from by simp)]
  refine wpAny_bind (wpAny_field hT hd h3 ?_)
  rw [if_neg (show ¬ ((Value.none == rawInt L) = true) from by simp [rawInt])]
  have dt := Obj.data_mapFields hd (·.setIfInBounds 3 Value.none)
  have self := Heap.get?_update_self (Obj.mapFields (·.setIfInBounds 3 Value.none)) hT (Obj.isFreed_of_fields dt)
  have kp : Kp [e, T] (frs (env :: outer)) s.heap (s.heap.update T (Obj.mapFields (·.setIfInBounds 3 Value.none))) := by
    refine ⟨fun b o q n _ => ?_, fun b o q n m => ⟨o.slots, ?_⟩, fun b o q => ?_⟩
    · rw [Heap.get?_update_other _ _ (fun z => n (by simp [z]))]
      exact q
    · rw [Heap.get?_update_other _ _ (fun z => n (by simp [z]))]
      exact q
    · by_cases hb : T = b
      · subst hb; exact ⟨_, self⟩
      · exact ⟨o, by rw [Heap.get?_update_other _ _ hb]; exact q⟩
  have fn := kp.fun_ (fun x hx => by
    rcases List.mem_cons.mp hx with z | z
    · exact ⟨_, _, z ▸ he, rfl⟩
    · exact ⟨_, _, (List.mem_singleton.mp z) ▸ hT, hd⟩) hl
  refine wpAny_bind (wpAny_setField hT hd sz ?_)
  refine entry_x (base := base) hfr fn hf ⟨t, by rw [Heap.get?_update_other _ _ ne]; exact he⟩ fun h' T' g1 g2 g3 g4 g5 => ?_
  refine k h' T' ?_ g2 g3 g4 (kp.trans (g5.more fun x hx => by simp at hx; simp [hx]))
  have : (s.heap.update T (Obj.mapFields (·.setIfInBounds 3 Value.none))).objs.size = s.heap.objs.size := by first | exact Heap.size_update _ _ _ | simp
  rw [← this]
  exact g1
end
end XE
namespace XE
open PySem PySem.Spec PyProof.Rows L2
noncomputable def forget (a : Addr) (H : Hp) : Hp := fun b => if b = a then none else H b
theorem forget_ne {a b : Addr} {H : Hp} (h : b ≠ a) : forget a H b = H b := by unfold forget; rw [if_neg h]
theorem forget_same {a : Addr} {H : Hp} : forget a H a = none := by unfold forget; rw [if_pos rfl]
theorem forget_upd {a : Addr} {H : Hp} {o : HO} (h : H a = none) : forget a (upd H a o) = H := by
  funext b
  unfold forget upd
  by_cases e : b = a
  · rw [if_pos e, e, h]
  · rw [if_neg e, if_neg e]
theorem un_kp {fs fs' xs : List Addr} {H0 H2 : Hp} {h0 h2 h3 : Heap} {a : Addr} {φ : Heap → Prop} (u : Un fs [] H0 H2 h0 h2) (k : Kp xs fs' h2 h3) (nx : ∀ x ∈ xs, h0.objs.size ≤ x) (nf : ∀ x ∈ fs', x ∈ fs ∨ h0.objs.size ≤ x) (ha : H2 a = some (.ext φ)) :
    Un fs [] H0 (forget a H2) h0 h3 := by
  have lt : ∀ {b : Addr} {o : Obj}, h0.get? b = some o → b < h0.objs.size := fun e => Heap.lt_size e
  have nx' : ∀ {b : Addr} {o : Obj}, h0.get? b = some o → b ∉ xs := fun e z => Nat.lt_irrefl _ (Nat.lt_of_lt_of_le (lt e) (nx _ z))
  refine ⟨fun b o q n m x => ?_, fun b o q n m x => ?_, fun b o q n x => ?_, fun b o q x => ?_, fun b xs e => ?_, fun b o u' e => ?_, fun b ps e => ?_⟩
  · refine k.keep b o (u.keep b o q n m x) (nx' q) fun z => ?_
    rcases nf b z with z | z
    · exact m z
    · exact Nat.lt_irrefl _ (Nat.lt_of_lt_of_le (lt q) z)
  · obtain ⟨sl, e⟩ := u.slot b o q n m x
    by_cases z : b ∈ fs'
    · obtain ⟨sl', e'⟩ := k.slot b _ e (nx' q) z
      exact ⟨sl', e'⟩
    · exact ⟨sl, k.keep b _ e (nx' q) z⟩
  · have e := u.free b o q n x
    rw [forget_ne (fun z => by rw [z, ha] at e; cases e)]
    exact e
  · obtain ⟨o', e⟩ := u.there b o q x
    exact k.there b o' e
  · have e' := u.tups b xs e
    rw [forget_ne (fun z => by rw [z, ha] at e'; cases e')]
    exact e'
  · have e' := u.frzs b o u' e
    rw [forget_ne (fun z => by rw [z, ha] at e'; cases e')]
    exact e'
  · obtain ⟨more, e'⟩ := u.tbls b ps e
    refine ⟨more, ?_⟩
    rw [forget_ne (fun z => by rw [z, ha] at e'; cases e')]
    exact e'
theorem hok_kp {P : Program} {w : World} {xs fs : List Addr} {H : Hp} {h h' : Heap} {a : Addr} {φ : Heap → Prop} (x : HOk P w H h) (k : Kp xs fs h h') (nx : ∀ y ∈ xs, y = a ∨ H y = none) (nf : ∀ y ∈ fs, H y = none) (ha : H a = some (.ext φ)) : HOk P w (forget a H) h' := by
  intro b o e
  have nb : b ≠ a := fun z => by rw [z, forget_same] at e; cases e
  rw [forget_ne nb] at e
  refine (x b o e).stay (fun c u hc q => ?_) (fun c q => ?_) fun c ys q => ?_
  · have tr : ∃ v, H c = some v ∧ c ≠ a := by
      rcases hc with rfl | hc
      · exact ⟨_, e, nb⟩
      · exact ⟨_, hc, fun z => by rw [z, ha] at hc; cases hc⟩
    obtain ⟨v, t1, t2⟩ := tr
    refine k.keep c u q (fun z => ?_) fun z => ?_
    · rcases nx c z with z | z
      · exact t2 z
      · rw [t1] at z; cases z
    · have := nf c z
      rw [t1] at this; cases this
  · rw [forget_ne (fun z => by rw [z, ha] at q; cases q)]; exact q
  · rw [forget_ne (fun z => by rw [z, ha] at q; cases q)]; exact q
noncomputable def CXx (P : Program) (w : World) : CXT := fun outer H s E v s' => ∃ e C dx T H', v = .ref e ∧ s'.os = s.os ∧ AllBare s'.gens ∧ Un (frs outer) [] H H' s.heap s'.heap ∧ HOk P w H' s'.heap ∧ s.heap.objs.size ≤ e ∧ s.heap.objs.size ≤ T ∧ T ≠ e ∧
  XR e C dx (.ref T) s'.heap ∧ TB T .none s'.heap ∧ H' e = none ∧ H' T = none ∧ E (.ref C) (some dx) H'
section
variable {P : Program} {w : World} {K : PySem.W.Frag} {mg : Str → Option Value} {base : Heap} {N : List Str} {qual : Str} {scope : Scope} {f C R : Addr} {cdv : Value} {A : Around} {outer : List Env} {s0 : Shared} {H0 : Hp} {E : XK}
noncomputable def sRaise (n0 : Nat) (C : Addr) (E : XK) (te : TE) : TS := fun _ σ H => te σ H fun v H2 => ∃ a dx, v = .ref a ∧ n0 ≤ a ∧ H2 a = some (.ext (XAt a C (some dx))) ∧ E (.ref C) (some dx) (forget a H2)
theorem ps_raise {e : Expr} {te : TE} {pos : Pos} (c : XCl K C (.ref R :: vE)) (he : PE (cxOf (CXx P w) P w K mg base N qual scope f cdv A outer s0 H0 E) e te) :
    PS (cxOf (CXx P w) P w K mg base N qual scope f cdv A outer s0 H0 E) (.Raise (some e) none pos) (sRaise s0.heap.objs.size C E te) := by
  intro pins s σ H D I h
  rw [arm_exec_Raise]
  refine wpAny_bind (wpAny_standAt ?_)
  simp only [evalOpt, Option.map]
  unfold raiseStmt
  refine wpAny_bind (wpAny_bind (thn (he pins s σ H _ I h) fun v s2 ⟨x, H2, I2, r2, a, dx, ex, ge, ha, q⟩ => wpAny_bind (wpAny_standAt (wpAny_pure ?_))))
  subst ex
  obtain rfl : v = .ref a := r2
  obtain ⟨t, hat⟩ := XAt.of I2.hok ha
  obtain ⟨nm, qn, Nn, bs, sn, sub, ab, col, dd, k0, k1, k2, k3, k5, l, _⟩ := c
  have hC := I2.kIn _ _ l
  have hcB : (Value.ref C :: Value.ref R :: vE).contains (.type "BaseException") = true := by simp
  have hh := I2.ok.hd rfl
  have st := I2.env0
  have un : Un (frs outer) [] H0 H2 s0.heap s2.heap := I2.base
  have osq : s2.os = s0.os := I2.os
  have bare := I2.bare
  have ab' : s0.heap.objs.size ≤ s0.heap.objs.size := Nat.le_refl _
  have sz : s0.heap.objs.size ≤ s2.heap.objs.size := I2.sz
  have hok : HOk P w H2 s2.heap := I2.hok
  have fin : (cxOf (CXx P w) P w K mg base N qual scope f cdv A outer s0 H0 E).xe (.ref a) s2 := by
    show wpAny (model P w) (A.deeper (envOfC qual scope s0.heap.objs.size f cdv)) (leaving (envOfC qual scope s0.heap.objs.size f cdv) (.ref a)) (fun _ s'' => CXx P w outer H0 s0 E (.ref a) s'') (fun e' s'' => CXx P w outer H0 s0 E e' s'') s2
    unfold leaving
    refine wpAny_bind (note_first (base := base) (outer := outer) (C := C) (dx := dx) st.frames st.funs rfl ⟨t, hat⟩ fun h3 T g1 g2 g3 g4 g5 => ?_)
    refine land_x g2 g3 g4 fun h4 j1 j2 j3 => ?_
    have kp : Kp [a, T] (frs (envOfC qual scope s0.heap.objs.size f cdv :: outer)) s2.heap h4 := by
      refine (g5.more fun x hx => by simp at hx; simp [hx]).trans ?_
      refine ⟨fun b o q n _ => j3.keep b o q (fun z => n (by simp at z; simp [z])) (by simp), fun b o q n m => ⟨o.slots, ?_⟩, j3.there⟩
      exact j3.keep b o q (fun z => n (by simp at z; simp [z])) (by simp)
    have hT : H2 T = none := hok.fresh g1
    refine ⟨a, C, dx, T, forget a H2, rfl, osq, bare, un_kp un kp (fun x hx => ?_) (fun x hx => ?_) ha, hok_kp hok kp (fun y hy => ?_) st.frf ha, ge, Nat.le_trans sz g1, g4, j1, j2, forget_same, ?_, q⟩
    · simp at hx
      rcases hx with rfl | rfl
      · exact ge
      · exact Nat.le_trans sz g1
    · have hx' : x ∈ frs (envOfC qual scope s0.heap.objs.size f cdv :: outer) := hx
      unfold frs at hx'
      rw [List.filterMap_cons] at hx'
      have hfr : (envOfC qual scope s0.heap.objs.size f cdv).frame = some s0.heap.objs.size := rfl
      rw [hfr] at hx'
      rcases List.mem_cons.mp hx' with z | z
      · exact .inr (Nat.le_of_eq z.symm)
      · exact .inl z
    · simp at hy
      rcases hy with rfl | rfl
      · exact .inl rfl
      · exact .inr hT
    · rw [forget_ne g4]; exact hT
  obtain ⟨hp, g, d, tk, os⟩ := s2
  repeat (first | with_reducible refine wpAny_loadPart_at hat ?_ | with_reducible refine wpAny_loadPart_at hC ?_ | wp_step)
  refine wpAny_isSubtype_exc hC ?_
  rw [hcB]
  repeat (first | with_reducible refine wpAny_loadPart_at hat ?_ | with_reducible refine wpAny_loadPart_at hC ?_ | wp_step)
  exact wpAny_raiseNew_none hh fin
end
end XE
namespace XE
open PySem PySem.Spec PyProof.Rows L2
section
variable {X : Cx} {pins : List (Addr × Obj)} {σ : L2.St} {H : Hp} {s : Shared}
theorem name_goes {A : Around} {E : Value → Shared → Prop} {i : Nat} {n : Str} {pos : Pos} {Q : Unit → Shared → Prop} (I : L2.Inv X pins σ H s) (hN : X.N.Nodup) (hi : X.N[i]? = some n) (hl : X.env.scope.names.lookup n = some .local)
    (k : ∀ s', L2.Inv X pins (σ.set i none) H s' → Q () s') : wpAny (model X.prog X.w) A (do bindName X.env n .none; unbindBehindTheSuite X.env n pos) Q E s := by
  obtain ⟨m, hn, hm⟩ := id I.loc
  have hp : (X.env.scope.kind == .class || (X.env.scope.kind == .module && X.env.locals != X.env.globals)) = false := by rw [I.ok.kind]; rfl
  have hk : X.env.kindOf n = some .local := hl
  refine wpAny_bind (wpAny_bindName (wpAny_storeName_local hk hn (fun h1 hn1 hs1 => ?_) hp))
  unfold unbindBehindTheSuite
  refine wpAny_onRaise ?_
  unfold unbindName
  refine wpAny_bind (wpAny_point (wpAny_bind ?_))
  unfold deleteName
  simp only [hk, hp]
  rw [if_neg (by decide)]
  refine wpAny_bind (wpAny_nsDel_keeps hn1 fun h2 v hn2 hs2 => ?_)
  simp only [if_true, Option.isSome_some, Bool.not_true, Bool.false_eq_true, if_false]
  refine wpAny_pure (wpAny_point (k _ ?_))
  have hs := hs1.trans hs2
  have cne := I.cne
  obtain ⟨oL, _, _, hoL, _⟩ := id hn
  have hiσ : i < σ.length := by rw [I.len]; exact (List.getElem?_eq_some_iff.mp hi).1
  refine ⟨I.ok, I.os, I.bare, ⟨fun b o e n hb hx => ?_, fun b o e n hb hx => ?_, I.base.free, fun b o e hx => ?_, I.base.tups, I.base.frzs, I.base.tbls⟩, ⟨_, hn2, fun j y v' e1 e2 e3 => ?_⟩, fun y c e => ?_, I.free, I.freeC, fun p hp => ?_, fun b ob e => ?_, by simpa using I.len⟩
  · exact (hs.2 b (Nat.ne_of_lt (Nat.lt_of_lt_of_le (Heap.lt_size e) I.ok.above))).trans (I.base.keep b o e n hb hx)
  · obtain ⟨sl, e1⟩ := I.base.slot b o e n hb hx
    exact ⟨sl, (hs.2 b (Nat.ne_of_lt (Nat.lt_of_lt_of_le (Heap.lt_size e) I.ok.above))).trans e1⟩
  · obtain ⟨o', e1⟩ := I.base.there b o e hx
    exact ⟨o', (hs.2 b (Nat.ne_of_lt (Nat.lt_of_lt_of_le (Heap.lt_size e) I.ok.above))).trans e1⟩
  · by_cases hj : j = i
    · subst hj
      rw [List.getElem?_set_self hiσ] at e2
      cases e2
    · rw [List.getElem?_set_ne (Ne.symm hj)] at e2
      obtain ⟨u', r', q⟩ := hm j y v' e1 e2 e3
      refine ⟨u', r', ?_⟩
      rcases q with ⟨k, e⟩ | ⟨k, c, e, z⟩
      · refine .inl ⟨k, ?_⟩
        have : y ≠ n := fun e => hj (nodup_ix hN e1 (e ▸ hi))
        simp [this, e]
      · exact .inr ⟨k, c, e, z.sameBut hs (cne y c e)⟩
  · obtain ⟨w', z⟩ := I.cell y c e
    exact ⟨w', z.sameBut hs (cne y c e)⟩
  · obtain ⟨e, n, ne, nf, d⟩ := I.pin p hp
    exact ⟨(hs.2 p.1 ne).trans e, n, ne, nf, d⟩
  · refine (I.hok b ob e).stay (fun c w' hc q => (hs.2 c ?_).trans q) (fun _ q => q) fun _ _ q => q
    rintro rfl
    rcases hc with rfl | hc
    · rw [I.free] at e; cases e
    · rw [I.free] at hc; cases hc
noncomputable def caught (X : Cx) (e : Addr) (oe : Obj) : Cx := { X with A := X.A.mark (some (.ref e)), calm := false, pn := (e, oe) :: X.pn, xe := fun _ _ => False }
theorem caught_ok {e : Addr} {oe : Obj} (ok : X.Ok) : (caught X e oe).Ok :=
  ⟨ok.mod, ok.kind, ok.glob, ok.blt, ok.above, ok.inj, ok.has, ok.cab, fun z => (nomatch z), ok.frames, ok.stk, ok.exf, ok.bs, ok.bsz, ok.noex, ok.exfs, ok.funs, ok.frf⟩
theorem caught_inv {e : Addr} {oe : Obj} (I : L2.Inv X pins σ H s) (h : s.heap.get? e = some oe ∧ H e = none ∧ e ≠ X.env.locals ∧ e ∉ X.fs ∧ ∀ v, oe.data ≠ .cell v) : L2.Inv (caught X e oe) pins σ H s :=
  ⟨caught_ok I.ok, I.os, I.bare, I.base, I.loc, I.cell, I.free, I.freeC, fun p hp => by
    have hp : p ∈ (e, oe) :: (X.pn ++ pins) := hp
    rcases List.mem_cons.mp hp with z | z
    · rw [z]; exact h
    · exact I.pin p z, I.hok, I.len⟩
theorem caught_back {e : Addr} {oe : Obj} (ok : X.Ok) (I : L2.Inv (caught X e oe) pins σ H s) : L2.Inv X pins σ H s :=
  ⟨ok, I.os, I.bare, I.base, I.loc, I.cell, I.free, I.freeC, fun p hp => I.pin p (List.mem_cons_of_mem _ hp), I.hok, I.len⟩
theorem matches_x {M : Model} {A : Around} {E : Value → Shared → Prop} {K : PySem.W.Frag} {C R e : Addr} {oe : Obj} {Q : Bool → Shared → Prop} (x : K.In s.heap) (c : XCl K C (.ref R :: vE)) (r : XCl K R vE) (he : s.heap.get? e = some oe) (hc : oe.cls = .ref C) (q : Q true s) :
    wpAny M A (excMatches (.ref e) (.ref R)) Q E s := by
  obtain ⟨nm, qn, N, bs, sn, sub, ab, col, dd, k0, k1, k2, k3, k5, l, _⟩ := c
  obtain ⟨nm', qn', N', bs', sn', sub', ab', col', dd', k0', k1', k2', k3', k5', l', _⟩ := r
  have hC := x _ _ l
  have hR := x _ _ l'
  have c1 : (Value.ref R :: vE).contains (.type "BaseException") = true := by simp
  have c2 : (Value.ref C :: Value.ref R :: vE).contains (.ref R) = true := by simp
  have f := tc_notTuple
  obtain ⟨hp, g, d, tk, os⟩ := s
  unfold excMatches
  repeat (first | (with_reducible refine wpAny_loadPart_at he ?_; rw [hc]) | with_reducible refine wpAny_loadPart_at hR ?_ | wp_step)
  refine wpAny_isSubtype_exc hR ?_
  rw [c1]
  repeat (first | (with_reducible refine wpAny_loadPart_at he ?_; rw [hc]) | with_reducible refine wpAny_loadPart_at hR ?_ | wp_step)
  refine wpAny_isSubtype_exc hC ?_
  rw [c2]
  repeat wp_step
  exact q
end
end XE
namespace XE
open PySem PySem.Spec PyProof.Rows L2
section
variable {X : Cx} {C R fa : Addr} {k : Nat} {fd : FuncData} {ps : List Str} {sp : Sp}
end
end XE
namespace XE
open PySem PySem.Spec PyProof.Rows L2
section
variable {prog : Program} {w : World} {A : Around} {E : Value → Shared → Prop} {h : Heap} {g : Array GenState} {d : Drawn} {t : Nat} {os : OsState} {K : PySem.W.Frag} {C R x : Addr} {ox : Obj} {od : Option Obj} {name : Str}
theorem kind_ga : builtinKind "BaseException.__getattribute__" = some .slot := by decide +kernel
theorem split_ga : splitId "BaseException.__getattribute__" = some ("BaseException", "__getattribute__") := by decide +kernel
theorem xga_call {tk : Nat} {Rr : Result → Shared → Prop} (hbm : PySem.W.mroIn K C (.type "BaseException") = some true) (X : K.In h) (I : PySem.W.InstAt h x ox C od)
    (k : wpAny (model prog w) A.in1 (Builtin.«object.__getattribute__» ⟨[.ref x, .str name tk], []⟩) (fun fin s' => match fin with | .done f => Rr (.ok f) s' | .again c' => c'.quiet = true ∧ codeAny (model prog w) A c' Rr s') (fun e s' => Rr (.error e) s') ⟨h, g, d, t, os⟩) :
    codeAny (model prog w) A (.call (.builtin "BaseException.__getattribute__") ⟨[.ref x, .str name tk], []⟩) Rr ⟨h, g, d, t, os⟩ := by
  have sub : PySem.W.Looks (model prog w) h (isInstance (.ref x) (.type "BaseException")) true := I.type.andThen (PySem.W.looks_mroIn X hbm)
  have ha := F.args_bexc_ga (.ref x) (.str name tk)
  exact codeAny_call_builtin PySem.F.excAttr_ValueError.ga.plain F.entry_bexc_ga (@PySem.W.check_slot (model prog w) _ _ ⟨h, g, d, t, os⟩ "BaseException.__getattribute__" "BaseException" "__getattribute__" (.ref x) [.str name tk] [] _ kind_ga split_ga sub ha k)
theorem xga_find {tk : Nat} {v : Value} {Q : Fin → Shared → Prop} {s : Shared} (X : K.In s.heap) (I : PySem.W.InstAt s.heap x ox C od) (hf : PySem.W.findObj K C od name = some (.value v)) (k : Q (.done (.ret v)) s) :
    wpAny (model prog w) A (Builtin.«object.__getattribute__» ⟨[.ref x, .str name tk], []⟩) Q E s := by
  have L0 := I.type (M := model prog w)
  have L1 := PySem.W.looks_find (M := model prog w) X I hf
  unfold Builtin.«object.__getattribute__»
  refine wpAny_bind (wpAny_pure (wpAny_bind (wpAny_pure (wpAny_bind (L0.here (wpAny_bind (L1.here ?_)))))))
  exact wpAny_pure k
theorem xget {v : Value} {ex : Bool} {Q : Value → Shared → Prop} (hbm : PySem.W.mroIn K C (.type "BaseException") = some true) (hgt : PySem.W.findIn K (.ref C) "__getattr__" = some none) (hga : PySem.W.findIn K (.ref C) "__getattribute__" = some (some (.builtin "BaseException.__getattribute__"))) (X : K.In h) (I : PySem.W.InstAt h x ox C od)
    (hf : PySem.W.findObj K C od name = some (.value v)) (hv : PySem.W.handedIn v = true) (k : Q v ⟨h, g, d, t + 1, os⟩) : wpAny (model prog w) A (getAttr (.ref x) name ex) Q E ⟨h, g, d, t, os⟩ := by
  have L0 := I.type (M := model prog w)
  have L1 := PySem.W.looks_findIn (M := model prog w) X hga
  have f3 := PySem.F.excAttr_ValueError.ga.bind (.ref x)
  have hx0 : (ex && onTheHeap (Value.builtin "BaseException.__getattribute__")) = false := by cases ex <;> rfl
  unfold getAttr getAttrBy
  refine wpAny_bind (wpAny_mkText (wpAny_holding (wpAny_bind (L0.at (wpAny_bind (L1.at ?_))))))
  repeat (any_goals (first | assumption | wp_step))
  refine PySem.W.looks_findIn X hgt _ _ _ _ (fun _ _ e => e) ?_
  repeat (any_goals (first | assumption | wp_step))
  refine xga_call hbm X I (xga_find (s := ⟨h, g, d, t + 1, os⟩) X I hf ?_)
  show wpAny _ _ (handedOut v) _ _ _
  rw [PySem.W.handedOut_of hv]
  exact wpAny_pure k
theorem xcls {od : Obj} {Q : Option Value → Shared → Prop} (hbm : PySem.W.mroIn K C (.type "BaseException") = some true) (hgt : PySem.W.findIn K (.ref C) "__getattr__" = some none) (hga : PySem.W.findIn K (.ref C) "__getattribute__" = some (some (.builtin "BaseException.__getattribute__")))
    (hc : (PySem.W.clsIn K C).isSome = true) (ha : PySem.W.findIn K (.ref C) "__class__" = some (some (.builtin "object.__class__"))) (hn : PySem.W.specialIn K (.builtin "object.__class__") "__get__" = some (some (.builtin "getset_descriptor.__get__")))
    (htk : PySem.W.takesIn K (.builtin "object.__class__") = some true) (hm : PySem.W.mroIn K C (.type "object") = some true) (X : K.In h) (I : PySem.W.InstAt h x ox C (some od)) (k : Q (some (.ref C)) ⟨h, g, d, t + 1, os⟩) :
    wpAny (model prog w) A (getAttr? (.ref x) "__class__") Q E ⟨h, g, d, t, os⟩ := by
  have hf : PySem.W.findObj K C (some od) "__class__" = some (.bind (.builtin "getset_descriptor.__get__") (.builtin "object.__class__")) := PySem.W.findObj_data hc ha hn htk
  have L0 := I.type (M := model prog w)
  have L1 := PySem.W.looks_findIn (M := model prog w) X hga
  have L2 := PySem.W.looks_find (M := model prog w) X I hf
  have f3 := PySem.F.excAttr_ValueError.ga.bind (.ref x)
  unfold getAttr? getAttrBy? getAttrBy
  refine wpAny_bind (wpAny_mkText (wpAny_bind (wpAny_attempt (wpAny_holding (wpAny_bind (L0.at (wpAny_bind (L1.at ?_))))))))
  repeat (any_goals (first | assumption | wp_step))
  refine PySem.W.looks_findIn X hgt _ _ _ _ (fun _ _ e => e) ?_
  repeat (any_goals (first | assumption | wp_step))
  refine xga_call hbm X I ?_
  unfold Builtin.«object.__getattribute__»
  refine wpAny_bind (wpAny_pure (wpAny_bind (wpAny_pure (wpAny_bind (L0.here (wpAny_bind (L2.here ?_)))))))
  show wpAny _ _ (Builtin.ObjectAttr.bindTo _ _ _ _) _ _ _
  unfold Builtin.ObjectAttr.bindTo
  repeat wp_step
  refine PySem.W.class_get X I hm ?_
  refine wpAny_pure ?_
  show wpAny _ _ (handedOut (.ref C)) _ _ _
  rw [PySem.W.handedOut_of (v := .ref C) rfl]
  exact wpAny_pure (wpAny_pure k)
structure XIs (K : PySem.W.Frag) (C : Addr) : Prop where
  bm : PySem.W.mroIn K C (.type "BaseException") = some true
  gt : PySem.W.findIn K (.ref C) "__getattr__" = some none
  ga : PySem.W.findIn K (.ref C) "__getattribute__" = some (some (.builtin "BaseException.__getattribute__"))
  hc : (PySem.W.clsIn K C).isSome = true
  ca : PySem.W.findIn K (.ref C) "__class__" = some (some (.builtin "object.__class__"))
  hn : PySem.W.specialIn K (.builtin "object.__class__") "__get__" = some (some (.builtin "getset_descriptor.__get__"))
  tk : PySem.W.takesIn K (.builtin "object.__class__") = some true
  hm : PySem.W.mroIn K C (.type "object") = some true
theorem XIs.kit {od : Obj} (q : XIs K C) : PySem.W.KitX K (.ref x) (.ref C) (fun h => PySem.W.InstAt h x ox C (some od)) where
  ty := fun _ _ _ I => I.type
  it := fun _ _ X _ => by
    obtain ⟨cd, hcd⟩ := Option.isSome_iff_exists.mp q.hc
    unfold PySem.W.clsIn at hcd
    split at hcd
    · rename_i c' d' cd' sl' ho
      intro A' Q' E' s' k q
      unfold isType loadHead
      exact wpAny_bind (wpAny_loadPart (k _ _ (X _ _ ho)) (wpAny_pure q))
    · cases hcd
  ne := fun h tp dd its n sl X htp => by
    obtain ⟨cd, hcd⟩ := Option.isSome_iff_exists.mp q.hc
    refine Bool.eq_false_iff.mpr fun z => ?_
    have e : C = tp := Value.ref.inj (beq_iff_eq.mp z)
    subst e
    unfold PySem.W.clsIn at hcd
    split at hcd
    · rename_i c' d' cd' sl' ho
      cases (X _ _ ho).symm.trans htp
    · cases hcd
  ca := fun {_ _ _ _ _ s} X I k => by
    obtain ⟨h, g, d, t, os⟩ := s
    exact xcls q.bm q.gt q.ga q.hc q.ca q.hn q.tk q.hm X I k
end
end XE
namespace XE
open PySem PySem.Spec PyProof.Rows L2
theorem vals_refs : ∀ {Ds : List Addr} {us : List Value}, Vals (Ds.map V.ref) us → us = Ds.map Value.ref
  | [], _, .nil => rfl
  | a :: r, _, .cons h1 h2 => by rw [List.map_cons, ← vals_refs h2]; cases (show _ = Value.ref a from h1); rfl
section
variable {X : Cx} {C e dx : Addr} {oe : Obj}
structure Cau (X : Cx) (C e dx : Addr) (oe : Obj) : Prop where
  pin : (e, oe) ∈ X.pn
  cls : oe.cls = .ref C
  dict : oe.dict = some dx
  data : ∃ vs, oe.data = .fields vs
  is : XIs X.K C
  hd : PySem.W.hasDictIn X.K C = true
theorem Cau.inst {pins : List (Addr × Obj)} {σ : L2.St} {H : Hp} {s : Shared} {fs : List (Str × V)} (c : Cau X C e dx oe) (I : L2.Inv X pins σ H s) (h : H dx = some (.xd fs)) :
    ∃ (od : Obj) (mA : Str → Option Value), PySem.W.InstAt s.heap e oe C (some od) ∧ (∀ f, RelO (fs.lookup f) (mA f)) ∧ ∀ name, PySem.W.lookIn name od = some (mA name) := by
  obtain ⟨mA, ns, r⟩ := (show ObjOk X.prog X.w H s.heap dx (.xd fs) from I.hok dx _ h)
  obtain ⟨od, ho, hl⟩ := lookIn_ns ns
  obtain ⟨e1, _⟩ := I.pin (e, oe) (List.mem_append_left _ c.pin)
  obtain ⟨vs, hd⟩ := c.data
  refine ⟨od, mA, ⟨e1, c.cls, ?_, ?_⟩, r, hl⟩
  · unfold PySem.W.notCls
    rw [hd]
  · rw [c.dict]
    exact ho
noncomputable def tHas (i : Nat) (e dx : Addr) (v : V) : TE := fun σ H Q => σ[i]? = some (some (.ref e)) ∧ (∃ fs, H dx = some (.xd fs)) ∧ Q v H
theorem call_isx (c : Cau X C e dx oe) : CallR X (.builtin "isinstance") fun xs H Q => ∃ v b, xs = [.ref e, v] ∧ (∃ fs, H dx = some (.xd fs)) ∧ ((∀ u, RelV v u → PySem.W.kitOne X.K (.ref C) u = some b) ∨ ∃ tp ws, v = .ref tp ∧ H tp = some (.tup ws) ∧ ∀ us, Vals ws us → PySem.W.kitAny X.K (.ref C) us = some b) ∧ Q (.bl b) H := by
  intro pins s σ H xs us Q I r h
  obtain ⟨v, b, rfl, ⟨fs, hx⟩, hk, q⟩ := h
  obtain ⟨u, w', rfl, ru, rw'⟩ := vals2 r
  cases (show u = Value.ref e from ru)
  obtain ⟨od, mA, inst, _, _⟩ := c.inst I hx
  have fin : ∀ tk, EP X pins σ Q (.bool b) { s with toks := tk } := fun tk => ⟨.bl _, H, I.tok _, rfl, q⟩
  rcases hk with hk | ⟨tp, ws, rfl, ht, hk⟩
  · exact PySem.W.kia_one c.is.kit I.kIn inst (hk _ rw') (fun z => nomatch z) fin
  · cases (show w' = Value.ref tp from rw')
    obtain ⟨_, its, rv, ⟨dd, c', n, sl⟩, e0, e1, m, e2⟩ := (show ObjOk X.prog X.w H s.heap tp (.tup ws) from I.hok tp _ ht)
    dsimp only at e1 e2
    subst e1 e2
    exact PySem.W.kia_tup c.is.kit I.kIn inst e0 (hk _ rv) (fun z => nomatch z) fin
theorem pe_isx {i : Nat} {n cn : Str} {b : Bool} {D : Addr} {p p1 p2 pos : Pos} (c : Cau X C e dx oe) (hv : PE X (.Name n p1) (tVar i)) (hg : Gl X "isinstance") (hi : X.mg "isinstance" = none) (hgD : Gl X cn) (hm : X.mg cn = some (.ref D)) (hk : PySem.W.kitOne X.K (.ref C) (.ref D) = some b)
    (hd : (cn == ("__debug__" : Str)) = false := by decide) (hs : starEach [.Name n p1, .Name cn p2] X.env = [(false, eval (.Name n p1) X.env), (false, eval (.Name cn p2) X.env)] := by rfl) (hs2 : starEach [.Name cn p2] X.env = [(false, eval (.Name cn p2) X.env)] := by rfl) :
    PE X (.Call (.Name "isinstance" p) [.Name n p1, .Name cn p2] [] pos) (tHas i e dx (.bl b)) := by
  refine _root_.D.pe_imp (pe_callB (call_isx c) hg hi PyProof.Rows.boot_isinstance (pa_cons hv (pa_cons (pe_glob (v := .ref D) hgD hm rfl hd) pa_nil (by rw [hs2]; rfl)) (by rw [hs, hs2])) (by decide) (by decide) (by rw [hs, hs2]) (by rw [hs2]; rfl)) fun σ H Q ⟨h0, hx, q⟩ => ?_
  exact ⟨_, h0, .ref D, b, rfl, hx, .inl fun u hu => by cases (show u = Value.ref D from hu); exact hk, q⟩
theorem pe_isxT {i : Nat} {n : Str} {T : String} {b : Bool} {p p1 p2 pos : Pos} (c : Cau X C e dx oe) (hv : PE X (.Name n p1) (tVar i)) (hg : Gl X "isinstance") (hi : X.mg "isinstance" = none) (hgT : Gl X "ValueError") (hm : X.mg "ValueError" = none) (hk : PySem.W.kitOne X.K (.ref C) (.type "ValueError") = some b)
    (hs : starEach [.Name n p1, .Name "ValueError" p2] X.env = [(false, eval (.Name n p1) X.env), (false, eval (.Name "ValueError" p2) X.env)] := by rfl) (hs2 : starEach [.Name "ValueError" p2] X.env = [(false, eval (.Name "ValueError" p2) X.env)] := by rfl) :
    PE X (.Call (.Name "isinstance" p) [.Name n p1, .Name "ValueError" p2] [] pos) (tHas i e dx (.bl b)) := by
  refine _root_.D.pe_imp (pe_callB (call_isx c) hg hi PyProof.Rows.boot_isinstance (pa_cons hv (pa_cons (pe_bltn (v := .ty "ValueError") hgT hm (by first | rfl | decide +kernel) rfl) pa_nil (by rw [hs2]; rfl)) (by rw [hs, hs2])) (by decide) (by decide) (by rw [hs, hs2]) (by rw [hs2]; rfl)) fun σ H Q ⟨h0, hx, q⟩ => ?_
  exact ⟨_, h0, .ty "ValueError", b, rfl, hx, .inl fun u hu => by cases (show u = Value.type "ValueError" from hu); exact hk, q⟩
noncomputable def tHasT (i : Nat) (e dx : Addr) (v : V) (ws : List V) : TE := fun σ H Q => σ[i]? = some (some (.ref e)) ∧ (∃ fs, H dx = some (.xd fs)) ∧ ∀ p, H p = none → Q v (upd H p (.tup ws))
theorem pe_isxs {i : Nat} {n : Str} {b : Bool} {Ds : List Addr} {es : List Expr} {ta : TA} {p p1 tpos pos : Pos} {k : Nat} (c : Cau X C e dx oe) (hv : PE X (.Name n p1) (tVar i)) (hg : Gl X "isinstance") (hi : X.mg "isinstance" = none) (ht : PA X es ta) (hta : ∀ σ H Q, Q (Ds.map V.ref) H → ta σ H Q)
    (hz : Ds.length ≤ 100) (hk : PySem.W.kitAny X.K (.ref C) (Ds.map Value.ref) = some b) (hs : starEach [.Name n p1, .Tuple es k tpos] X.env = [(false, eval (.Name n p1) X.env), (false, eval (.Tuple es k tpos) X.env)] := by rfl) (hs2 : starEach [.Tuple es k tpos] X.env = [(false, eval (.Tuple es k tpos) X.env)] := by rfl) :
    PE X (.Call (.Name "isinstance" p) [.Name n p1, .Tuple es k tpos] [] pos) (tHasT i e dx (.bl b) (Ds.map V.ref)) := by
  refine _root_.D.pe_imp (pe_callB (call_isx c) hg hi PyProof.Rows.boot_isinstance (pa_cons hv (pa_cons (pe_tup ht) pa_nil (by rw [hs2]; rfl)) (by rw [hs, hs2])) (by decide) (by decide) (by rw [hs, hs2]) (by rw [hs2]; rfl)) fun σ H Q ⟨h0, ⟨fs, hx⟩, q⟩ => ?_
  refine ⟨_, h0, hta σ H _ ⟨by rw [List.length_map]; exact Nat.le_trans hz (by decide), fun tp htp => ?_⟩⟩
  refine ⟨.ref tp, b, rfl, ⟨fs, by rw [upd_ne (ne_of_none hx htp)]; exact hx⟩, .inr ⟨tp, _, rfl, upd_same, fun us hu => ?_⟩, q tp htp⟩
  rw [vals_refs hu]
  exact hk
noncomputable def tXn (i : Nat) (e dx : Addr) (f : Str) : TE := fun σ H Q => σ[i]? = some (some (.ref e)) ∧ ∃ fs v, H dx = some (.xd fs) ∧ fs.lookup f = some v ∧ Q v H
theorem pe_xn {i : Nat} {n f : Str} {p1 pos : Pos} (c : Cau X C e dx oe) (hv : PE X (.Name n p1) (tVar i)) (ha : PySem.W.findIn X.K (.ref C) f = some none) (hb : attributeBase (.Name n p1) f X.env (eval (.Name n p1) X.env) = eval (.Name n p1) X.env := by rfl) :
    PE X (.Attribute (.Name n p1) f pos) (tXn i e dx f) := by
  intro pins s σ H Q I h
  obtain ⟨h0, fs, v, hx, hf, q⟩ := h
  refine attr_of hb (thn (hv pins s σ H (fun w H' => w = .ref e ∧ H' = H) I ⟨_, h0, rfl, rfl⟩) fun u s1 ⟨x, H1, I1, rx, ex, eh⟩ => ?_)
  subst ex eh
  cases (show u = Value.ref e from rx)
  obtain ⟨od, mA, inst, r, hl⟩ := c.inst I1 hx
  obtain ⟨u, hu, ru⟩ := RelO.some_of (v := v) (o := mA f) (by rw [← hf]; exact r f)
  obtain ⟨hp, g, d, tk, os⟩ := s1
  exact xget c.is.bm c.is.gt c.is.ga I1.kIn inst (PySem.W.findObj_own c.hd ha rfl (by rw [hl, hu])) (handed_of ru) ⟨v, H1, I1.tok _, ru, q⟩
end
end XE
namespace XE
open PySem PySem.Spec PyProof.Rows L2 D
theorem okX {P : Program} {w : World} {K : PySem.W.Frag} {mg : Str → Option Value} {base : Heap} {x qual : Str} {st : Stmt} {f : Addr} {fd : FuncData} {N ps : List Str} {k : Nat} {sp : Sp} (F : Fun K x qual st f fd) (S : FnScope N ps (defScope st)) (len : ∀ vs H Q E, sp vs H Q E → vs.length = ps.length)
    (hbody : ∀ (cdv : Value) (A : Around) (outer : List Env) (s : Shared) (H : Hp) (vs : List V) (Q : VK) (E : XK), Room k (A.deeper (envOfC qual (defScope st) s.heap.objs.size f cdv)) → sp vs H Q E →
      ∃ t, PSs (cxOf (CXx P w) P w K mg base N qual (defScope st) f cdv A outer s H E) (defBody st) t ∧ t { nx := fun _ H' => Q .non H', rt := Q } (start N vs) H) : FnOk P w K mg base (CXx P w) (k + 1) f fd ps sp := by
  obtain ⟨oc, od, kV, doc, pm, an, cdv, ct, osl, rfl, lk, hcd⟩ := F.ex
  exact fn_of lk hcd S len fun A outer s H vs Q E hr hsp => hbody cdv A outer s H vs Q E hr hsp
theorem rs_start {K : PySem.W.Frag} {O : Addr → Prop} {ts : List Addr} {H : Hp} {T : Tp} {vs : List V} {ws : List W} {N : List Str} (hc : HC K O ts H T) (rw' : RepWs K O ts H vs ws) (hn : noLoc ws = true) :
    RS K O H [] ts O H (start N vs) (ws.map some ++ List.replicate (N.length - ws.length) none) T := by
  have hlen : vs.length = ws.length := Paired.length rw'
  have noL : ∀ {i : Nat} {xs : PyData}, (ws.map some ++ List.replicate (N.length - ws.length) none)[i]? = some (some (W.loc xs)) → False := fun {i xs} e => noLoc_mem hn (List.mem_of_getElem? (start_get e))
  refine ⟨hc, fun i u e => ?_, fun _ h => h, hc.own, .refl _ _, fun i xs a e1 _ => (noL e1).elim, fun i j xs ys v e1 _ _ _ => (noL e1).elim, fun f hf => absurd hf (by simp), by simp [L2.start, hlen]⟩
  obtain ⟨v, h1, h2⟩ := repws_get rw' (start_get e)
  refine ⟨v, ?_, h2⟩
  unfold L2.start
  have hi : i < vs.length := (List.getElem?_eq_some_iff.mp h1).1
  rw [List.getElem?_append_left (by simpa using hi), List.getElem?_map, h1]
  rfl
structure XB (K : PySem.W.Frag) (C R : Addr) (f : Str) (Ds : List Addr) : Prop where
  c : XCl K C (.ref R :: vE)
  r : XCl K R vE
  ri : PySem.W.ownIn K "__init__" (.ref R) = some none
  kp : PySem.W.keepIn K (.ref C) = true
  is : XIs K C
  hd : PySem.W.hasDictIn K C = true
  nn : PySem.W.findIn K (.ref C) f = some none
  sa : PySem.W.findIn K (.ref C) "__setattr__" = some (some (.builtin "object.__setattr__"))
  rd : PySem.W.readsIn K R (.type "type") = true
  fc : PySem.W.findCls K (.ref R) (.type "type") "__init__" = some (.val (.builtin "ValueError.__init__"))
  kC : PySem.W.kitOne K (.ref C) (.ref C) = some true
  kV : PySem.W.kitOne K (.ref C) (.type "ValueError") = some true
  kD : PySem.W.kitAny K (.ref C) (Ds.map Value.ref) = some false
noncomputable def nsOkO : Obj → Bool
  | ⟨_, _, .dict es _, _⟩ => es.toList.all fun e => match e.key with
    | .str _ _ => true
    | _ => false
  | _ => false
theorem kit_no {K : PySem.W.Frag} {C A : Addr} (h1 : PySem.W.isClsIn K A = true) (h2 : PySem.W.typeIn K (.ref A) = some (.type "type")) (h3 : PySem.W.subIn K (.ref C) (.ref A) = some false) (h4 : (Value.ref C == Value.ref A) = false) : PySem.W.kitOne K (.ref C) (.ref A) = some false := by
  unfold PySem.W.kitOne PySem.W.kitCls
  unfold PySem.W.isClsIn at h1
  rw [h4, if_neg Bool.false_ne_true]
  simp only [h1, h2, h3, beq_self_eq_true, Bool.and_true, if_true]
theorem kit_ve {K : PySem.W.Frag} {C : Addr} (h3 : PySem.W.subIn K (.ref C) (.type "ValueError") = some true) : PySem.W.kitOne K (.ref C) (.type "ValueError") = some true := by
  have h4 : (Value.ref C == Value.type "ValueError") = false := by simp
  have h5 : PySem.W.kitMeta "ValueError" = true := by decide +kernel
  unfold PySem.W.kitOne PySem.W.kitCls
  rw [h4, if_neg Bool.false_ne_true]
  simp only [h5, h3, if_true]
theorem xb_mk {K : PySem.W.Frag} {C R A1 A2 A3 : Addr} {f : Str} {nm q nm' q' : Str} {N N' : Addr} {bs bs' sub sub' : List Value} {sn sn' : List Str} {ab ab' : Bool} {col col' : Option Bool} {dd dd' : Option Addr} {k0 k1 k2 k3 k5 j0 j1 j2 j3 j5 : Option Value} {oN oN' : Obj}
    (lC : K.lookup C = some (excClassObj nm q C N bs (.ref R :: vE) true sn sub ab col dd k0 k1 k2 k3 k5 "ValueError.__new__")) (nC : K.lookup N = some oN)
    (lR : K.lookup R = some (excClassObj nm' q' R N' bs' vE true sn' sub' ab' col' dd' j0 j1 j2 j3 j5 "ValueError.__new__")) (nR : K.lookup N' = some oN') (ri : PySem.W.nsIn K N' "__init__" = some none) (kp : PySem.W.keepIn K (.ref C) = true)
    (bm : PySem.W.mroIn K C (.type "BaseException") = some true) (gt : PySem.W.findIn K (.ref C) "__getattr__" = some none) (ga : PySem.W.findIn K (.ref C) "__getattribute__" = some (some (.builtin "BaseException.__getattribute__")))
    (ca : PySem.W.findIn K (.ref C) "__class__" = some (some (.builtin "object.__class__"))) (hn : PySem.W.specialIn K (.builtin "object.__class__") "__get__" = some (some (.builtin "getset_descriptor.__get__")))
    (tk : PySem.W.takesIn K (.builtin "object.__class__") = some true) (hm : PySem.W.mroIn K C (.type "object") = some true) (nn : PySem.W.findIn K (.ref C) f = some none) (sa : PySem.W.findIn K (.ref C) "__setattr__" = some (some (.builtin "object.__setattr__")))
    (rd : PySem.W.readsIn K R (.type "type") = true) (fc : PySem.W.findCls K (.ref R) (.type "type") "__init__" = some (.val (.builtin "ValueError.__init__"))) (kV : PySem.W.subIn K (.ref C) (.type "ValueError") = some true)
    (a1 : PySem.W.isClsIn K A1 = true) (b1 : PySem.W.typeIn K (.ref A1) = some (.type "type")) (c1 : PySem.W.subIn K (.ref C) (.ref A1) = some false) (a2 : PySem.W.isClsIn K A2 = true) (b2 : PySem.W.typeIn K (.ref A2) = some (.type "type")) (c2 : PySem.W.subIn K (.ref C) (.ref A2) = some false)
    (a3 : PySem.W.isClsIn K A3 = true) (b3 : PySem.W.typeIn K (.ref A3) = some (.type "type")) (c3 : PySem.W.subIn K (.ref C) (.ref A3) = some false)
    (d1 : (Value.ref C == Value.ref A1) = false) (d2 : (Value.ref C == Value.ref A2) = false) (d3 : (Value.ref C == Value.ref A3) = false) (oC : nsOkO oN = true) (oR : nsOkO oN' = true) : XB K C R f [A1, A2, A3] := by
  have cl : PySem.W.clsIn K C = some { name := nm, bases := bs, mro := .ref C :: .ref R :: vE, ns := N, qualname := q, hasDict := true, slotNames := sn, subclasses := sub, abstract := ab, collection := col, hasDel := false } := by
    unfold PySem.W.clsIn
    rw [lC]
  have no : ∀ {N : Addr} {o : Obj}, K.lookup N = some o → nsOkO o = true → PySem.W.nsOkIn K N = true := fun {N o} h1 h2 => by
    obtain ⟨oc, od, dt, sl⟩ := o
    unfold PySem.W.nsOkIn
    rw [h1]
    cases dt with
    | dict es ep =>
      have h3 : (es.toList.all fun e => match e.key with
        | .str _ _ => true
        | _ => false) = true := h2
      rw [Array.all_toList] at h3
      exact h3
    | _ => cases h2
  refine ⟨⟨_, _, _, _, _, _, _, _, _, _, _, _, _, _, lC, no nC oC⟩, ⟨_, _, _, _, _, _, _, _, _, _, _, _, _, _, lR, no nR oR⟩, ?_, kp, ⟨bm, gt, ga, by rw [cl]; rfl, ca, hn, tk, hm⟩, ?_, nn, sa, rd, fc, ?_, kit_ve kV, ?_⟩
  · simp only [PySem.W.ownIn]
    rw [lR]
    exact ri
  · unfold PySem.W.hasDictIn
    rw [cl]
    rfl
  · unfold PySem.W.kitOne
    rw [if_pos (by simp)]
  · simp only [List.map, PySem.W.kitAny, kit_no a1 b1 c1 d1, kit_no a2 b2 c2 d2, kit_no a3 b3 c3 d3]
end XE
namespace XE
open PySem PySem.Spec PyProof.Rows L2
section
variable {X : Cx} {C R : Addr}
noncomputable def tFsI (i : Nat) (z1 z2 : Str) : TE := fun σ H Q => ∃ n : Int, σ[i]? = some (some (.int n)) ∧ n.natAbs.log2 < 1920 ∧ z1.length + (Str.ofString (toString n)).length + z2.length ≤ sizeLine ∧ ∀ y, Q (.str y) H
theorem pe_fsI {i : Nat} {n z1 z2 : Str} {p p1 p2 p3 pos : Pos} (hn : PE X (.Name n p) (tVar i)) : PE X (.JoinedStr [.Constant (.str z1) 0 p1, .FormattedValue (.Name n p) (-1) none p2, .Constant (.str z2) 0 p3] pos) (tFsI i z1 z2) := by
  intro pins s σ H Q I h
  obtain ⟨m, h0, hd, hs, q⟩ := h
  have e0 : Str.empty.length = 0 := rfl
  refine wpAny_JoinedStr ?_
  refine Calls.Constant_str ⟨z1, _, rfl, by rw [strLen_append, e0]; omega, ?_⟩
  have I0 := I.tok (s.toks + 1)
  refine wpAny_FormattedValue_plain (thn (hn pins _ σ H (fun v H' => v = .int m ∧ H' = H) I0 ⟨_, h0, rfl, rfl⟩) fun u s1 ⟨v, H1, I1, r1, e1, e2⟩ => ?_)
  subst e1 e2
  obtain ⟨t, rfl⟩ := r1
  refine wpAny_formatField_int hd ⟨Str.ofString (toString m), _, rfl, by rw [strLen_append, strLen_append, e0]; omega, ?_⟩
  refine Calls.Constant_str ⟨z2, _, rfl, by rw [strLen_append, strLen_append, strLen_append, e0]; omega, ?_⟩
  exact ⟨by rw [strLen_append, strLen_append, strLen_append, e0]; omega, .str _, H1, ((I1.tok _).tok _).tok _, ⟨_, rfl⟩, q _⟩
end
end XE
namespace XE
open PySem PySem.Spec PyProof.Rows L2 D
noncomputable def spG (P : V → Prop) (C : Addr) (f : Str) : Sp := fun vs H Q _ => ∃ a v, vs = [.ref a, v] ∧ H a = some (.ext (XAt a C none)) ∧ P v ∧
  ∀ dx, H dx = none → dx ≠ a → Q .non (upd (upd H dx (.xd [(f, v)])) a (.ext (XAt a C (some dx))))
noncomputable def numV (z1 z2 : Str) : V → Prop := fun v => ∃ n : Int, v = .int n ∧ n.natAbs.log2 < 1920 ∧ z1.length + (Str.ofString (toString n)).length + z2.length ≤ sizeLine
theorem iniG_read {C : Addr} {f z1 z2 : Str} {N : List Str} {vs : List V} {H : Hp} {Q : VK} {E : XK} (h : spG (numV z1 z2) C f vs H Q E) :
    tSeq (tDrop (tIni C (tFsI 1 z1 z2))) (sXf C 0 (tVar 1) f) { nx := fun _ H' => Q .non H', rt := Q } (start N vs) H := by
  obtain ⟨a, v, rfl, ha, ⟨n, rfl, h1, h2⟩, q⟩ := h
  refine ⟨a, rfl, n, rfl, h1, h2, fun y => ⟨ha, ?_⟩⟩
  exact ⟨.int n, rfl, a, rfl, ha, fun dx h1 h2 => q dx h1 h2⟩
structure XIniG (A : V → Prop) (P : Program) (w : World) (K : PySem.W.Frag) (mg : Str → Option Value) (base : Heap) (C R : Addr) (f : Str) (k : Nat) : Prop where
  ex : ∃ fI fd ps, FnOk P w K mg base CX0 k fI fd ps (spG A C f) ∧ Binds K fd ps [] ∧ PySem.W.findIn K (.ref C) "__init__" = some (some (.ref fI)) ∧ PySem.W.isFn K (.ref fI) = true
  c : XCl K C (.ref R :: vE)
  r : XCl K R vE
  ri : PySem.W.ownIn K "__init__" (.ref R) = some none
  kp : PySem.W.keepIn K (.ref C) = true
noncomputable def tXmG (P : V → Prop) (n0 : Nat) (C : Addr) (f : Str) (te : TE) : TE := fun σ H Q => te σ H fun v H1 => P v ∧
  ∀ a dx, n0 ≤ a → H1 a = none → H1 dx = none → dx ≠ a → Q (.ref a) (upd (upd H1 dx (.xd [(f, v)])) a (.ext (XAt a C (some dx))))
section
variable {X : Cx} {C R : Addr} {f : Str} {k : Nat}
theorem pe_xmkG {P : V → Prop} {cn : Str} {e : Expr} {te : TE} {p pos : Pos} (G : XIniG P X.prog X.w X.K X.mg X.base C R f k) (hr : Room (k + 1) X.A) (hg : Gl X cn) (hm : X.mg cn = some (.ref C)) (he : PE X e te)
    (hdb : (cn == ("__debug__" : Str)) = false := by decide) (hs : starEach [e] X.env = [(false, eval e X.env)] := by rfl) :
    PE X (.Call (.Name cn p) [e] [] pos) (tXmG P X.s₀.heap.objs.size C f te) := by
  intro pins s σ H Q I h
  obtain ⟨fI, fd, ps, F, hb, hi, hf⟩ := G.ex
  refine wpAny_Call_Name_kw (ld_glob I hg hm ?_ hdb)
  have pa : PA X [e] (tCons te tNil) := pa_cons he pa_nil (by rw [hs]; rfl)
  have hA := pa pos pins s σ H (fun vs H1 => match vs with
    | [v] => P v ∧ ∀ a dx, X.s₀.heap.objs.size ≤ a → H1 a = none → H1 dx = none → dx ≠ a → Q (.ref a) (upd (upd H1 dx (.xd [(f, v)])) a (.ext (XAt a C (some dx))))
    | _ => False) I h
  refine PySem.W.callWith_K (h₀ := X.base) I.ok.mod.kin G.kp (thn hA fun us s1 ⟨vs, H1, I1, r1, q⟩ => ⟨I1.kIn, ?_⟩) (by rw [hs]; rfl) rfl
  dsimp only at q
  split at q
  · rename_i v
    obtain ⟨hx, q⟩ := q
    obtain ⟨u, us1, rfl, r2, r3⟩ : ∃ a b, us = a :: b ∧ RelV v a ∧ Vals [] b := by cases r1 with | cons a b => exact ⟨_, _, rfl, a, b⟩
    cases r3
    have I1' := I1
    obtain ⟨hp, g, d, tk, os⟩ := s1
    refine xcall I1.kIn G.c G.r G.ri hi hf (show 1 ≤ sizeLine by decide) fun h' a hm' hge => ?_
    obtain ⟨t, m1, m2, m3⟩ := hm'.there
    have fr : H1 a = none := I1.hok.fresh hge
    have I2 := I1'.laid (h' := h') (a := a) (o := .ext (XAt a C none)) (t' := tk) hm'.keeps hge (XAt.ok ⟨t, m1⟩)
    have hl : (Value.ref a :: [u]).length = ps.length := by
      have := F.len [.ref a, v] (upd H1 a (.ext (XAt a C none))) (fun _ H2 => True) E0 ⟨a, v, rfl, upd_same, hx, fun _ _ _ => trivial⟩
      simpa using this
    have hb' := hb ⟨h', g, d, tk, os⟩ [.ref a, u] I2.kIn (by simpa using hl)
    refine wpAny_call (codeAny_mono (F.run _ X.stack ⟨h', g, d, tk, os⟩ (upd H1 a (.ext (XAt a C none))) ⟨[.ref a, u], []⟩ [.ref a, u] [.ref a, v] (fun w H2 => w = .non ∧ Q (.ref a) H2) E0 ?_ (I2.env0.make C [u] []) (by simpa using hb') (.cons rfl (.cons r2 .nil)) ⟨a, v, rfl, upd_same, hx, fun dx h1 h2 => ⟨rfl, ?_⟩⟩) fun r s' hq => ?_)
    · exact hr.make C [u] []
    · rw [upd_swap_free h2]
      have h1' : H1 dx = none := by rw [upd_ne h2] at h1; exact h1
      exact q a dx (Nat.le_trans I1.sz hge) fr h1' h2
    · cases r with
      | error e => exact False.elim hq
      | ok fl =>
        cases fl with
        | ret u' =>
          obtain ⟨v, H3, I3, rv, ev, q'⟩ := I2.after hq
          subst ev
          exact ⟨rv, .ref a, H3, I3, rfl, q'⟩
        | next => exact False.elim hq
        | brk => exact False.elim hq
        | cont => exact False.elim hq
  · exact False.elim q
end
end XE
namespace XE
open PySem PySem.Spec PyProof.Rows L2 D
theorem raise_readI {K : PySem.W.Frag} {O₀ O : Addr → Prop} {H₀ H : Hp} {F : List ((Addr → Prop) × Hp)} {ts : List Addr} {σ : L2.St} {ρ : Rho} {T T' : Tp} {n0 : Nat} {C : Addr} {f : Str} {n : Int} {fe : FE} {P : V → Prop} {E : XK} {D' : Ends} (rs : RS K O₀ H₀ F ts O H σ ρ T) (hi : fe ρ T = some (.d (.int n), T')) (hp : P (.int n))
    (q : ∀ dx H', SameX ts H₀ H' → HC K O₀ ts H' T' → H' dx = some (.xd [(f, .int n)]) → E (.ref C) (some dx) H') : sRaise n0 C E (tXmG P n0 C f (lift K fe)) D' σ H := by
  refine ⟨O, ts, ρ, T, _, _, rs.hc, rs.re, hi, fun v H1 s1 hc1 r1 => ?_⟩
  cases (show Rep K O H1 v (.int n) from r1)
  have rs1 := rs.step s1 hc1
  refine ⟨hp, fun a dx ge ha hd ne => ⟨a, dx, rfl, ge, upd_same, ?_⟩⟩
  rw [forget_upd (by rw [upd_ne ne.symm]; exact ha)]
  exact q dx _ (rs1.same.trans (.new hd _)) (rs1.frzH.new hd _) upd_same
end XE
namespace D
open PySem PySem.Spec PyProof.Rows L2
theorem list_extT (l : Addr) (items : Array Value) (n : Nat) (b : Addr) (items2 : Array Value) (n2 : Nat) (dd : Option Addr) (sl : Array (Option Value)) (hc0 : ¬(!items.isEmpty && Builtin.List.listTooLong (items.size + items2.size)) = true) (hc1 : items.size ≤ sizeLine) (hs2 : items.size + items2.size ≤ sizeLine + 1) :
    Meets (Builtin.«list.extend» ⟨[.ref l, .ref b], []⟩) (fun _ R s => s.heap.get? l = some { cls := .type "list", dict := none, data := .seq items n, slots := #[] } ∧ s.heap.get? b = some { cls := .type "tuple", dict := dd, data := .seq items2 n2, slots := sl } ∧ R (.ok (.ret Value.none)) { s with heap := s.heap.update l (Obj.mapSeq fun x => x ++ items2), toks := s.toks }) :=
  .of_wp fun prog w A R s h => by
    obtain ⟨hp, g, d, tk, os⟩ := s
    obtain ⟨hl, hb, h⟩ := h
    have f1 := AutoSeq1.idx_int
    have f2 := AutoSeq1.sub_tuple_tuple
    have f3 := AutoSeq1.sub_list_list
    have f4 := AutoSeq1.sub_tuple_list
    have f5 := AutoSeq1.sub_list_tuple
    have hz' : (items ++ items2).size ≤ sizeLine + 1 := by rw [Array.size_append]; exact hs2
    wp_walk using (wpAny_updateSeq hl rfl (hz := hc1) (_hz' := hz')), wpAny_loadPart' hl, wpAny_loadPart' hb
    exact ⟨_, rfl, h⟩
section
variable {X : Cx}
theorem mt_extT : MtM X "list.extend" (fun x vs H Q => ∃ l b xs zs, x = .ref l ∧ vs = [.ref b] ∧ H l = some (.lst xs) ∧ SqT X.K H b zs ∧ xs.length + zs.length ≤ sizeLine ∧ Q .non (upd H l (.lst (xs ++ zs)))) := by
  intro pins s σ H x vs v us Q I rx rv h
  obtain ⟨l, b, xs, zs, rfl, rfl, hH, hB, hz, q⟩ := h
  cases rx
  obtain ⟨u, rfl, ru⟩ := rv.one
  cases ru
  obtain ⟨z, its, n, r, hl, e⟩ := I.lstM hH
  obtain ⟨its2, r2, pl, _⟩ := I.tuple hB
  obtain ⟨⟨cls2, dd2, data2, sl2⟩, e2, c2, n2, d2⟩ := pl
  simp only at c2 d2
  subst c2 d2
  have hl2 := r2.length
  have hsz : its.toArray.size + its2.toArray.size ≤ sizeLine := by rw [List.size_toArray, List.size_toArray]; omega
  have hlong : ¬ (!its.toArray.isEmpty && Builtin.List.listTooLong (its.toArray.size + its2.toArray.size)) = true := by
    rw [notLongL hsz, Bool.and_false]
    exact Bool.false_ne_true
  refine call_meets F.slot_list_extend ⟨_, e, rfl⟩ F.entry_list_extend (F.args_list_extend_2 _ _)
    (list_extT l its.toArray n b its2.toArray n2 dd2 sl2 hlong (by rw [List.size_toArray]; omega) (by omega)) ⟨e, e2, ?_⟩
  refine ⟨.non, _, I.lset (its' := its ++ its2) hH e (by simp) (r.append r2) ?_, rfl, q⟩
  rw [List.length_append]
  omega
variable {pos : Pos} {e : Expr} {fe : FE}
noncomputable def extTK (i : Nat) (ρ : Rho) (w : W) (T : Tp) (o : Option (Option W)) : Option ((Fl × Rho) × Tp) := match w, o with
  | .d (.tuple ys), some (some (.loc (.list xs))) => if xs.length + ys.length ≤ 1000 then some ((.nx, ρ.set i (some (.loc (.list (xs ++ ys))))), T) else none
  | _, _ => none
noncomputable def fExtT (i : Nat) (f : FE) : FS := fun ρ T => bnd (f ρ T) fun w T1 => extTK i ρ w T1 ρ[i]?
theorem ds_extT {i : Nat} {x : Str} {p apos : Pos} (he : DE X e fe) (hN : X.N[i]? = some x := by rfl) (hv : Vis X.env.scope x := by first | exact Or.inl rfl | exact Or.inr (Or.inl rfl) | exact Or.inr (Or.inr rfl)) (hd : (x == ("__debug__" : Str)) = false := by decide)
    (hcd : (x == ("__classdict__" : Str)) = false := by decide) {cpos : Pos}
    (hbase : attributeBase (.Name x p) "extend" X.env (eval (.Name x p) X.env) = eval (.Name x p) X.env := by rfl)
    (hfew : ((backTo cpos (starEach [e] X.env)).all (fun x => !x.1) && (backToKw cpos (keywordEach [] X.env)).all (fun x => x.1.isSome)
      && decide (([e] : List Expr).length + ([] : List Keyword).length + (if ([] : List Keyword).isEmpty then 0 else 1) < 30)) = true := by exact few1 rfl)
    (hline : (apos.endLine == cpos.line) = true := by rfl) (hse : starEach [e] X.env = (false, eval e X.env) :: starEach [] X.env := by exact star_cons rfl) (hplain : (backTo cpos (starEach [] X.env)).any (·.1) = false := by exact star_any rfl)
    (hs : swapsWith (.Call (.Attribute (.Name x p) "extend" apos) [e] [] cpos) none pos.line X.env = pure false := by rfl) :
    DS X (.Expr (.Call (.Attribute (.Name x p) "extend" apos) [e] [] cpos) pos) (fExtT i fe) := by
  refine ⟨?_⟩
  refine ps_imp (ps_expr (pe_bm PySem.F.plainAttrs_list PySem.F.slot_list_extend PySem.F.type_list_extend mt_extT (pv i hN hv hd hcd) (pa_cons he.pe pa_nil hse) hbase hfew hline hse hplain) hs) fun D σ H => ?_
  rintro ⟨O₀, H₀, F, ts, O, ρ, T, fl, ρ', T', rs, e, q⟩
  obtain ⟨w, T1, e1, e⟩ := bnd_of e
  unfold extTK at e
  split at e
  · rename_i ys xs h1
    split at e
    · rename_i h2
      cases e
      obtain ⟨v, k1, a, rfl, k2, k3, vs, k4, k5⟩ := rs.re i _ h1
      refine ⟨_, k1, .inl ⟨rfl, vs, SqL.of k4⟩, O, ts, ρ, T, _, _, rs.hc, rs.re, e1, fun u H1 s1 hc1 r1 => ?_⟩
      have rs1 := rs.step s1 hc1
      have r1' : Rep X.K O H1 u (.tuple ys) := r1
      cases r1' with
      | tup t r =>
        rename_i b us
        exact ⟨a, b, vs, us, rfl, rfl, s1 _ _ k3 k4, t.sq, by rw [k5.length, r.length]; exact le_line h2, q O _ _ (rs1.put (us := []) h1 k1 ((k5.mono (rs.hc.le s1)).append r))⟩
    · cases e
  · cases e
noncomputable def unpLK (i j : Nat) (ρ : Rho) (w : W) (T : Tp) : Option ((Fl × Rho) × Tp) := match w with
  | .d (.list [x, y]) => some ((.nx, (ρ.set i (some (.d x))).set j (some (.d y))), T)
  | _ => none
noncomputable def fUnpL (i j : Nat) (f : FE) : FS := fun ρ T => bnd (f ρ T) (unpLK i j ρ)
end
end D
namespace D
open PySem PySem.Spec PyProof.Rows L2
section
variable {prog : Program} {w : World} {A : Around} {E : Value → Shared → Prop}
theorem draw_list {it t : Addr} {items : Array Value} (hne : t ≠ it) : ∀ (n i : Nat) (s : Shared) (Q : List Value → Shared → Prop), s.heap.IsListIter it t i → s.heap.IsList t items → i + n ≤ items.size →
    (∀ h', h'.IsListIter it t (i + n) → Heap.SameBut it s.heap h' → Q ((items.toList.drop i).take n) { s with heap := h' }) → wpAny (model prog w) A (draw (.ref it) n) Q E s
  | 0, i, s, Q, hit, _, _, hQ => by
    show wpAny _ _ (pure []) Q E s
    exact wpAny_pure (by simpa using hQ s.heap hit (Heap.SameBut.refl ..))
  | n + 1, i, s, Q, hit, ht, hle, hQ => by
    have hlt : i < items.size := by omega
    show wpAny _ _ (pyNext (.ref it) >>= _) Q E s
    refine wpAny_bind (wpAny_pyNext_list_item hit ht (x := items[i]) (by simp [hlt]) fun h₁ hit₁ hs₁ => ?_)
    refine wpAny_bind (wpAny_holding (draw_list hne n (i + 1) _ _ hit₁ (ht.extBut hs₁.extBut hne) (by omega) fun h₂ hit₂ hs₂ => wpAny_pure ?_))
    have hd : items.toList.drop i = items[i] :: items.toList.drop (i + 1) := by simp [List.drop_eq_getElem_cons, hlt]
    have := hQ h₂ (by rw [show i + (n + 1) = i + 1 + n by omega]; exact hit₂) (hs₁.trans hs₂)
    rw [hd, List.take_succ_cons] at this
    exact this
theorem unpackItems_list {s : Shared} {t : Addr} {items : Array Value} {Q : List Value → Shared → Prop} (hh : A.handled = none) (ht : s.heap.IsList t items)
    (hQ : ∀ h', Heap.ExtBut s.heap.objs.size s.heap h' → Q items.toList { s with heap := h' }) : wpAny (model prog w) A (unpackItems (.ref t) items.size none) Q E s := by
  have hlt : t ≠ s.heap.objs.size := by obtain ⟨o, ho, _⟩ := ht; exact Nat.ne_of_lt (Heap.lt_size ho)
  unfold unpackItems
  refine wpAny_bind ?_
  · unfold notIterableAtAll
    refine wpAny_bind (wpAny_specialOf ht.typeIs slot_list_iter.lookup ?_)
    refine wpAny_pure ?_
    simp only [Bool.false_eq_true, if_false]
    refine wpAny_bind (wpAny_holding (wpAny_pyIter_list ht ?_))
    refine wpAny_bind (wpAny_holding (draw_list hlt items.size 0 _ _ ⟨_, Heap.get?_push_size _ rfl, rfl, rfl⟩ (ht.push _) (by omega) fun h₁ hit₁ hs₁ => ?_))
    have hall : List.take items.size (List.drop 0 items.toList) = items.toList := by
      rw [List.drop_zero]; exact List.take_of_length_le (by simp)
    rw [hall]
    rw [if_neg (by simp)]
    have ht₁ : h₁.IsList t items := (ht.push _).extBut hs₁.extBut hlt
    refine wpAny_bind (wpAny_holding (wpAny_pyNext_list_end hh hit₁ ht₁ (by simp) fun h₂ he₂ => ?_))
    simp only [Option.isSome_none, Bool.false_eq_true, if_false]
    refine wpAny_pure (hQ h₂ fun b o hb e => he₂ b o hb (hs₁.extBut b o hb (Heap.get?_push_of_some _ e)))
theorem assign_Tuple_list {s : Shared} {env : Env} {elts : List Expr} {x1} {pos : Pos} {t : Addr} {items : Array Value} {Q : Unit → Shared → Prop} (hh : A.handled = none) (ht : s.heap.IsList t items)
    (hn : (assignEach elts env).length = items.size) (hstar : (assignEach elts env).findIdx? (·.1) = none)
    (h : ∀ h', Heap.ExtBut s.heap.objs.size s.heap h' → wpAny (model prog w) A (assignInOrder ((assignEach elts env).map (·.2)) items.toList) Q E { s with heap := h' }) :
    wpAny (model prog w) A (assign (.Tuple elts x1 pos) env (.ref t)) Q E s := by
  rw [assign_Tuple]
  refine wpAny_bind (wpAny_standAt ?_)
  unfold unpack
  rw [hn, hstar]
  exact wpAny_bind (wpAny_holding (unpackItems_list hh ht h))
end
section
variable {X : Cx} {pos : Pos}
noncomputable def gLst (K : PySem.W.Frag) (n : Nat) (t : TGs) : TG := fun v σ H Q => ∃ a xs, v = .ref a ∧ SqL K H a xs ∧ xs.length = n ∧ t xs σ H Q
theorem pg_tupL {es : List Expr} {k : Nat} {t : TGs} {n : Nat} (hc : X.calm = true) (h : PGs X es t)
    (hn : (assignEach es X.env).length = n := by rfl) (hst : (assignEach es X.env).findIdx? (·.1) = none := by rfl) : PG X (.Tuple es k pos) (gLst X.K n t) := by
  intro pins s σ H v u Q I r hw
  obtain ⟨a, xs, e1, hq, hl, hw⟩ := hw
  subst e1
  cases r
  obtain ⟨its, rv, ht, hz⟩ := I.list hq
  refine assign_Tuple_list (I.ok.hd hc) ht.isList (by simp [hn, ← hl, rv.length]) hst fun h' hx => ?_
  have I1 : Inv X pins σ H { s with heap := h' } := I.kept (t' := s.toks) fun b o e => hx b o (Nat.ne_of_lt (Heap.lt_size e)) e
  exact h pins _ σ H xs _ Q I1 (by simpa using rv) hw
theorem ds_unpL {i j : Nat} {x y : Str} {e : Expr} {f : FE} {k : Nat} {px py tp : Pos} (hN : X.N.Nodup) (he : DE X e f) (hi : X.N[i]? = some x := by rfl) (hj : X.N[j]? = some y := by rfl) (hx : Loc X.env.scope x := by first | exact Or.inl rfl | exact Or.inr rfl) (hy : Loc X.env.scope y := by first | exact Or.inl rfl | exact Or.inr rfl)
    (hf : X.fn x = true ∨ X.env.scope.names.lookup x = some .local := by first | exact .inl rfl | exact .inr rfl | assumption) (hf' : X.fn y = true ∨ X.env.scope.names.lookup y = some .local := by first | exact .inl rfl | exact .inr rfl | assumption) (hc : X.calm = true := by rfl)
    (hs : swapsWithSole [.Tuple [.Name x px, .Name y py] k tp] e pos.line X.env = pure false := by rfl) (hw : swappedStores [.Tuple [.Name x px, .Name y py] k tp] e X.env = pure none := by rfl)
    (h1 : (assignEach [.Tuple [.Name x px, .Name y py] k tp] X.env).map (·.2) = [assign (.Tuple [.Name x px, .Name y py] k tp) X.env] := by rfl) : DS X (.Assign [.Tuple [.Name x px, .Name y py] k tp] e pos) (fUnpL i j f) := by
  refine ⟨?_⟩
  refine ps_imp (ps_asg he.pe (pg_tupL hc (pgs_cons (pg_name hN hi hx hf) (pgs_cons (pg_name hN hj hy hf') pgs_nil))) hs hw h1) fun D σ H => ?_
  rintro ⟨O₀, H₀, F, ts, O, ρ, T, fl, ρ', T', rs, e, q⟩
  obtain ⟨w, T1, e1, e⟩ := bnd_of e
  refine ⟨O, ts, ρ, T, w, T1, rs.hc, rs.re, e1, fun v H1 s1 hc1 r1 => ?_⟩
  unfold unpLK at e
  split at e
  · rename_i a b
    cases e
    have rs1 := rs.step s1 hc1
    have r1' : Rep X.K O H1 v (.list [a, b]) := r1
    cases r1' with
    | lst t r =>
      cases r with
      | cons ra r =>
        cases r with
        | cons rb r =>
          cases r
          exact ⟨_, _, rfl, t.sq, rfl, _, _, rfl, _, _, rfl, rfl, q O _ _ ((rs1.set (w := .d a) ra fun _ z => nomatch z).set (w := .d b) rb fun _ z => nomatch z)⟩
  · cases e
noncomputable def It2 (lo : Int) (n : Nat) : It := ⟨fun i _ => i < n, fun i H x H' => H' = H ∧ x = .int (lo + i * 2), fun i _ => n ≤ i⟩
theorem turn_range2 {P : Program} {w : World} {K : PySem.W.Frag} {tg : Expr} (it : Addr) (lo : Int) (n : Nat) : Turn P w K tg (It2 lo n) [it] it (fun i h => IsRangeIter h it (lo + (i : Nat) * 2) ((n : Int) - (i : Nat)) 2) where
  mem := by simp
  obj := fun i h st b hb => by
    have e : b = it := by simpa using hb
    subst e
    exact ⟨_, st, fun v z => by
      have z' : Data.fields _ = Data.cell v := z
      cases z'⟩
  keep := fun i h h' st k => k it (by simp) _ st
  item := by
    intro X hP hw hK hc i pins s σ H E I hf st hg
    subst hP hw hK
    obtain ⟨f0, f1, f2, f3, f4, f5⟩ := hf it (by simp)
    have W := Walks.range (prog := X.prog) (w := X.w) (I.ok.hd hc) it lo 2 n
    refine W.item i s _ _ hg st fun v h' tk hv st' kk => ?_
    obtain ⟨t, rfl⟩ := hv
    have I1 : Inv X pins σ H { s with heap := h', toks := tk } := I.turned (fun b o hb e => kk b o (by simpa using hb) e) f0 f1 f3 f4 f5
    exact ⟨_, rfl, go_of (s := { s with heap := h', toks := tk }) (n := "range_iterator") st' rfl rfl (by decide) ⟨.int (lo + i * 2), H, I1, ⟨t, rfl⟩, ⟨rfl, rfl⟩, st', fun b hb => (hf b hb).1⟩⟩
  done := by
    intro X hP hw hK hc i pins s σ H E I hf st hg
    subst hP hw hK
    obtain ⟨f0, f1, f2, f3, f4, f5⟩ := hf it (by simp)
    exact wpAny_pyNext_range_end (I.ok.hd hc) st (by have : n ≤ i := hg; omega) fun h' eb => ⟨rfl, I.turned (t' := s.toks) (fun b o hb e => eb b o hb e) f0 f1 f3 f4 f5⟩
  self := fun _ _ _ _ _ st h => wpAny_pyIter_rangeiter st h
noncomputable def many2 (i j : Int) : Nat := ((j - i + 1) / 2).toNat
theorem range_it2 {tg : Expr} {pins : List (Addr × Obj)} {σ : L2.St} {H : Hp} {s : Shared} {R : It → Hp → Prop} {E : Value → Shared → Prop} {lo hi : Int} {t u v : Tok} {tk : Nat} (I : Inv X pins σ H s) (h1 : 0 ≤ lo) (h2 : lo ≤ 100000) (h3 : -100000 ≤ hi) (h4 : hi ≤ 100000)
    (q : R (It2 lo (many2 lo hi)) H) : wpAny (model X.prog X.w) X.A (pyIter (.ref s.heap.objs.size)) (PIE X pins σ tg R) E { s with heap := s.heap.push { cls := .type "range", data := .fields #[.int lo t, .int hi u, .int 2 v] }, toks := tk } := by
  have rz : Builtin.Range.rangeSize lo hi 2 = ((many2 lo hi : Nat) : Int) := by
    unfold Builtin.Range.rangeSize many2
    rw [if_pos (by decide)]
    split <;> omega
  have sm : Builtin.Range.small lo hi 2 = true := by
    unfold Builtin.Range.small
    rw [rz]
    unfold many2
    simp only [Builtin.Range.rangeFitsLong, Bool.and_eq_true, Bool.or_eq_true, decide_eq_true_eq, beq_iff_eq, show (2 : Int) > 0 by decide, if_true]
    omega
  refine wpAny_pyIter_range (IsRange.new ..) sm ?_
  have I1 : Inv X pins σ H { s with heap := s.heap.push { cls := .type "range", data := .fields #[.int lo t, .int hi u, .int 2 v] }, toks := tk } := I.kept fun b o e => Heap.get?_push_of_some _ e
  refine ⟨(s.heap.push { cls := .type "range", data := .fields #[.int lo t, .int hi u, .int 2 v] }).objs.size, [(s.heap.push { cls := .type "range", data := .fields #[.int lo t, .int hi u, .int 2 v] }).objs.size], _, _, H, rfl,
    I1.kept (t' := tk) fun b o e => Heap.get?_push_of_some _ e, turn_range2 _ lo (many2 lo hi), ?_, fun b hb => ?_, q⟩
  · have e1 : lo + ((0 : Nat) : Int) * 2 = lo := by simp
    have e2 : (((many2 lo hi : Nat) : Int)) - ((0 : Nat) : Int) = Builtin.Range.rangeSize lo hi 2 := by rw [rz]; simp
    show IsRangeIter _ _ (lo + ((0 : Nat) : Int) * 2) (((many2 lo hi : Nat) : Int) - ((0 : Nat) : Int)) 2
    rw [e1, e2]
    exact Heap.get?_push_size _ rfl
  · have e : b = (s.heap.push { cls := .type "range", data := .fields #[.int lo t, .int hi u, .int 2 v] }).objs.size := by simpa using hb
    subst e
    exact I1.fpOk (Nat.le_refl _) (I1.hok.fresh (Nat.le_refl _))
noncomputable def iRng3 (ta : TA) : TI := fun σ H R => ta σ H fun vs H1 => ∃ i j : Int, vs = [.int i, .int j, .int 2] ∧ (0 ≤ i ∧ i ≤ 100000 ∧ -100000 ≤ j ∧ j ≤ 100000) ∧ R (It2 i (many2 i j)) H1
theorem pi_range3 {tg a b c : Expr} {ta : TA} {p pos : Pos} (hg : Gl X "range") (hm : X.mg "range" = none) (ha : PA X [a, b, c] ta) (hs : starEach [a, b, c] X.env = [(false, eval a X.env), (false, eval b X.env), (false, eval c X.env)]) (hs2 : starEach [b, c] X.env = [(false, eval b X.env), (false, eval c X.env)]) :
    PI X tg (.Call (.Name "range" p) [a, b, c] [] pos) (iRng3 ta) := by
  intro pins s σ H R I h
  refine Call_ (ld_blt I hg hm boot_range (PyProof.Rows.callWith_type1 (thn (ha pos pins s σ H _ I h) fun us s1 ⟨vs, H1, I1, r1, q1⟩ => ?_) (by rw [hs, hs2]) (by rw [hs2]; rfl)))
  obtain ⟨i, j, e, ⟨q1, q2, q3, q4⟩, q⟩ := q1
  subst e
  cases r1 with
  | cons r rr =>
    cases rr with
    | cons r' rr =>
      cases rr with
      | cons r2 rr =>
        cases rr
        obtain ⟨t, rfl⟩ := r
        obtain ⟨t', rfl⟩ := r'
        obtain ⟨t2, rfl⟩ := r2
        exact call_range_3 (by decide) (range_it2 I1 q1 q2 q3 q4 q) (Or.inl (PyProof.noPylong_small (by omega)))
theorem star_three {a b c : Expr} {env : Env} (h : noStar a = true) (h2 : noStar b = true) (h3 : noStar c = true) : starEach [a, b, c] env = [(false, eval a env), (false, eval b env), (false, eval c env)] := by
  rw [star_cons h, star_two h2 h3]
noncomputable def nums2 (lo : Int) (n : Nat) : List PyData := (List.range n).map fun (k : Nat) => PyData.int (lo + (k : Int) * 2)
noncomputable def rng3K (w1 w2 w3 : W) (T : Tp) : Option (List PyData × Tp) := match w1, w2, w3 with
  | .d (.int i), .d (.int j), .d (.int 2) => if 0 ≤ i ∧ i ≤ 100000 ∧ -100000 ≤ j ∧ j ≤ 100000 then some (nums2 i (many2 i j), T) else none
  | _, _, _ => none
noncomputable def fRng3 (f g h : FE) : FI := fun ρ T => bnd (f ρ T) fun w1 T1 => bnd (g ρ T1) fun w2 T2 => bnd (h ρ T2) fun w3 T3 => rng3K w1 w2 w3 T3
theorem rng3K_of {w1 w2 w3 : W} {T T' : Tp} {ds : List PyData} (h : rng3K w1 w2 w3 T = some (ds, T')) : ∃ i j, w1 = .d (.int i) ∧ w2 = .d (.int j) ∧ w3 = .d (.int 2) ∧ (0 ≤ i ∧ i ≤ 100000 ∧ -100000 ≤ j ∧ j ≤ 100000) ∧ ds = nums2 i (many2 i j) ∧ T' = T := by
  unfold rng3K at h
  split at h
  · split at h
    · rename_i hh
      cases h
      exact ⟨_, _, rfl, rfl, rfl, hh, rfl, rfl⟩
    · cases h
  · cases h
theorem ItOk.rng2 {K : PySem.W.Frag} {O : Addr → Prop} {H1 : Hp} {lo : Int} {n : Nat} : ItOk K O H1 (It2 lo n) (nums2 lo n) := fun O' H' le => by
  have hl : (nums2 lo n).length = n := by simp [nums2]
  refine ⟨fun i hi => by rw [hl] at hi; exact hi, by rw [hl]; exact Nat.le_refl _, fun i v H'' y hi => ?_⟩
  obtain ⟨e, y⟩ := y
  subst y
  rw [hl] at hi
  refine ⟨e, .int (lo + i * 2), ?_, .int _⟩
  unfold nums2
  rw [List.getElem?_map, List.getElem?_range hi]
  rfl
theorem di_rng3 {tg a b c : Expr} {f g h : FE} {p pos : Pos} (hg : Gl X "range") (hm : X.mg "range" = none) (ha : DE X a f) (hb : DE X b g) (hc : DE X c h) (hs : starEach [a, b, c] X.env = [(false, eval a X.env), (false, eval b X.env), (false, eval c X.env)] := by exact star_three rfl rfl rfl) (hs2 : starEach [b, c] X.env = [(false, eval b X.env), (false, eval c X.env)] := by exact star_two rfl rfl) (hs3 : starEach [c] X.env = [(false, eval c X.env)] := by exact star_one rfl) :
    DI X tg (.Call (.Name "range" p) [a, b, c] [] pos) (fRng3 f g h) := by
  refine ⟨?_⟩
  refine pi_imp (pi_range3 (ta := tCons (lift X.K f) (tCons (lift X.K g) (tCons (lift X.K h) tNil))) hg hm (pa_cons ha.pe (pa_cons hb.pe (pa_cons hc.pe pa_nil (by rw [hs3]; rfl)) (by rw [hs2, hs3])) (by rw [hs, hs2])) hs hs2) fun σ H R => ?_
  rintro ⟨O, ts, ρ, T, ds, T', hc, re, e, q⟩
  obtain ⟨w1, T1, e1, e⟩ := bnd_of e
  obtain ⟨w2, T2, e2, e⟩ := bnd_of e
  obtain ⟨w3, T3, e3, e⟩ := bnd_of e
  obtain ⟨i, j, rfl, rfl, rfl, hh, rfl, rfl⟩ := rng3K_of e
  refine ⟨O, ts, ρ, T, _, T1, hc, re, e1, fun v1 H1 s1 hc1 r1 => ?_⟩
  refine ⟨O, ts, ρ, T1, _, T2, hc1, re.mono hc s1, e2, fun v2 H2 s2 hc2 r2 => ?_⟩
  refine ⟨O, ts, ρ, T2, _, _, hc2, (re.mono hc s1).mono hc1 s2, e3, fun v3 H3 s3 hc3 r3 => ?_⟩
  cases (show Rep X.K O H1 v1 _ from r1)
  cases (show Rep X.K O H2 v2 _ from r2)
  cases (show Rep X.K O H3 v3 _ from r3)
  refine ⟨i, j, rfl, hh, q _ H3 (s1.trans (s2.trans s3)) hc3 .rng2 ?_⟩
  have h1 : (100001 : Nat) ≤ sizeLine := by decide
  simp only [nums2, List.length_map, List.length_range, many2]
  omega
end
end D
namespace D
open PySem PySem.Spec PyProof.Rows L2
section
variable {X : Cx} {pos : Pos} {e : Expr} {fe : FE}
noncomputable def setLCK (i : Nat) (ρ : Rho) (T : Tp) (o : Option PyData) : Option ((Fl × Rho) × Tp) := match o with
  | some (.list xs) => some ((.nx, ρ.set i (some (.loc (.list xs)))), T)
  | _ => none
noncomputable def fSetLC (i : Nat) (f : FE) : FS := fun ρ T => bnd (f ρ T) fun w T1 => setLCK i ρ T1 (view T1 w)
theorem ds_setLC {i : Nat} {x : Str} {p cpos pos' : Pos} (hm : X.mg "list" = none) (hN : X.N.Nodup) (he : DE X e fe) (hg : Gl X "list" := by rfl)
    (hse : starEach [e] X.env = (false, eval e X.env) :: starEach [] X.env := by exact star_cons rfl) (hpl : (backTo cpos (starEach [] X.env)).any (·.1) = false := by exact star_any rfl) (hi : X.N[i]? = some x := by rfl) (hx : Loc X.env.scope x := by first | exact Or.inl rfl | exact Or.inr rfl)
    (hs : swapsWith (.Call (.Name "list" p) [e] [] cpos) (some (.Name x pos')) pos.line X.env = pure false := by rfl) (hf : X.fn x = true ∨ X.env.scope.names.lookup x = some .local := by first | exact .inl rfl | exact .inr rfl | assumption) :
    DS X (.Assign [.Name x pos'] (.Call (.Name "list" p) [e] [] cpos) pos) (fSetLC i fe) := by
  refine ⟨?_⟩
  refine ps_imp (ps_set hN hi hx (pe_callTy call_list_of hg hm boot_list (pa_cons he.pe pa_nil hse) (by decide) (by decide) hse hpl) hs hf) fun D σ H => ?_
  rintro ⟨O₀, H₀, F, ts, O, ρ, T, fl, ρ', T', rs, e, q⟩
  obtain ⟨w, T1, e1, e⟩ := bnd_of e
  refine ⟨O, ts, ρ, T, w, T1, rs.hc, rs.re, e1, fun v H1 s1 hc1 r1 => ?_⟩
  have rs1 := rs.step s1 hc1
  unfold setLCK at e
  split at e
  · rename_i xs h1
    cases e
    obtain ⟨a, vs, rfl, t, r⟩ := (hc1.view r1 h1).lst
    exact ⟨a, vs, rfl, .inl t, fun p hp => q _ _ _ (rs1.own hp r)⟩
  · cases e
noncomputable def splS (w1 w2 : W) : Option (List PyData) := match w1, w2 with
  | .d (.str z), .d (.str y) => if (y.length == 0) = false ∧ z.length + 2 ≤ sizeLine then some ((Txt.split z y).map .str) else none
  | _, _ => none
noncomputable def setSpK (i : Nat) (ρ : Rho) (T : Tp) (o : Option (List PyData)) : Option ((Fl × Rho) × Tp) := match o with
  | some xs => some ((.nx, ρ.set i (some (.loc (.list xs)))), T)
  | none => none
noncomputable def fSetSp (i : Nat) (f g : FE) : FS := fun ρ T => bnd (f ρ T) fun w1 T1 => bnd (g ρ T1) fun w2 T2 => setSpK i ρ T2 (splS w1 w2)
theorem ds_setSp {i : Nat} {x : Str} {o : Expr} {fo : FE} {apos cpos pos' : Pos} (hN : X.N.Nodup) (ho : DE X o fo) (he : DE X e fe)
    (hbase : attributeBase o "split" X.env (eval o X.env) = eval o X.env := by rfl)
    (hfew : ((backTo cpos (starEach [e] X.env)).all (fun x => !x.1) && (backToKw cpos (keywordEach [] X.env)).all (fun x => x.1.isSome)
      && decide (([e] : List Expr).length + ([] : List Keyword).length + (if ([] : List Keyword).isEmpty then 0 else 1) < 30)) = true := by exact few1 rfl)
    (hline : (apos.endLine == cpos.line) = true := by rfl) (hse : starEach [e] X.env = (false, eval e X.env) :: starEach [] X.env := by exact star_cons rfl) (hplain : (backTo cpos (starEach [] X.env)).any (·.1) = false := by exact star_any rfl)
    (hi : X.N[i]? = some x := by rfl) (hx : Loc X.env.scope x := by first | exact Or.inl rfl | exact Or.inr rfl)
    (hs : swapsWith (.Call (.Attribute o "split" apos) [e] [] cpos) (some (.Name x pos')) pos.line X.env = pure false := by rfl) (hf : X.fn x = true ∨ X.env.scope.names.lookup x = some .local := by first | exact .inl rfl | exact .inr rfl | assumption) :
    DS X (.Assign [.Name x pos'] (.Call (.Attribute o "split" apos) [e] [] cpos) pos) (fSetSp i fo fe) := by
  refine ⟨?_⟩
  refine ps_imp (ps_set hN hi hx (pe_bm PySem.F.plainAttrs_str PySem.F.slot_str_split PySem.F.type_str_split mt_split ho.pe (pa_cons he.pe pa_nil hse) hbase hfew hline hse hplain) hs hf) fun D σ H => ?_
  rintro ⟨O₀, H₀, F, ts, O, ρ, T, fl, ρ', T', rs, e, q⟩
  obtain ⟨w1, T1, e1, e⟩ := bnd_of e
  obtain ⟨w2, T2, e2, e⟩ := bnd_of e
  cases hsp : splS w1 w2 with
  | none => rw [hsp] at e; cases e
  | some xs =>
    rw [hsp] at e
    cases e
    unfold splS at hsp
    split at hsp
    · rename_i z y
      split at hsp
      · rename_i hz
        cases hsp
        refine ⟨O, ts, ρ, T, _, T1, rs.hc, rs.re, e1, fun v1 H1 s1 hc1 r1 => ?_⟩
        have rs1 := rs.step s1 hc1
        cases (show Rep X.K O H1 v1 _ from r1)
        refine ⟨rfl, O, ts, ρ, T1, _, _, hc1, rs1.re, e2, fun v2 H2 s2 hc2 r2 => ?_⟩
        have rs2 := rs1.step s2 hc2
        cases (show Rep X.K O H2 v2 _ from r2)
        exact ⟨z, y, rfl, rfl, hz.1, hz.2, fun l hl => q _ _ _ (rs2.own hl (reps_strs _))⟩
      · cases hsp
    · cases hsp
theorem mt_popAt : MtM X "list.pop" (fun x vs H Q => ∃ (l : Addr) (xs : List V) (i : Int) (k : Nat) (y : V), x = .ref l ∧ vs = [.int i] ∧ H l = some (.lst xs) ∧ i = k ∧ xs[k]? = some y ∧ xs.length ≤ 1000 ∧ Q y (upd H l (.lst (xs.eraseIdx k)))) := by
  intro pins s σ H x vs v us Q I rx rv h
  obtain ⟨l, xs, i, k, y, rfl, rfl, hH, hik, hy, hz, q⟩ := h
  cases rx
  obtain ⟨u, rfl, ru⟩ := rv.one
  obtain ⟨t, rfl⟩ := ru
  obtain ⟨z, its, n, r, hl, e⟩ := I.lstM hH
  have hsl : (1001 : Nat) ≤ sizeLine := by decide
  obtain ⟨u, hu, ru⟩ := r.get hy
  have hk : k < its.length := (List.getElem?_eq_some_iff.mp hu).1
  have hfit : Builtin.List.listFitsIndex i = true := fitsIndex_both (by omega) (by omega)
  have hsi : seqIndex? i its.toArray.size = some k := by
    have h0 : ¬ (i < 0) := by omega
    unfold seqIndex?
    rw [if_neg h0]
    simp [hk, hik]
  have hu' : its.toArray[k]? = some u := by simpa using hu
  have hz' : its.toArray.size ≤ sizeLine := by rw [List.size_toArray]; exact Nat.le_trans (by omega) hsl
  clear hsl hz
  have er : Vals (xs.eraseIdx k) (its.eraseIdx k) := by
    rw [List.eraseIdx_eq_take_drop_succ, List.eraseIdx_eq_take_drop_succ]
    exact (r.take k).append (r.drop (k + 1))
  refine call_meets F.slot_list_pop ⟨_, e, rfl⟩ F.entry_list_pop (F.args_list_pop_2 _ _) (PySem.MeetsSeq.list_pop_at l its.toArray n i t k u hfit hsi hu' hz') ⟨e, ?_⟩
  refine ⟨y, _, I.lset (its' := its.eraseIdx k) hH e ?_ er ?_, ru, q⟩
  · apply Array.ext'
    simp [Array.eraseIdxIfInBounds, hk]
  · exact Nat.le_trans (List.length_eraseIdx_le xs k) (by rw [hl]; simpa using hz')
noncomputable def insPK (i : Nat) (ρ : Rho) (w1 w2 : W) (T : Tp) (o : Option (Option W)) : Option ((Fl × Rho) × Tp) := match w1, w2, o with
  | .d (.int a), .d (.int b), some (some (.loc (.list xs))) => if 0 ≤ a ∧ a < xs.length ∧ 0 ≤ b ∧ xs.length ≤ 1000 then (match xs[b.toNat]? with
    | some y => some ((.nx, ρ.set i (some (.loc (.list ((xs.eraseIdx b.toNat).take a.toNat ++ y :: (xs.eraseIdx b.toNat).drop a.toNat))))), T)
    | none => none) else none
  | _, _, _ => none
theorem insPK_of {i : Nat} {ρ ρ' : Rho} {w1 w2 : W} {T T' : Tp} {fl : Fl} {o : Option (Option W)} (h : insPK i ρ w1 w2 T o = some ((fl, ρ'), T')) : ∃ a b xs y, w1 = .d (.int a) ∧ w2 = .d (.int b) ∧ o = some (some (.loc (.list xs))) ∧ (0 ≤ a ∧ a < xs.length ∧ 0 ≤ b ∧ xs.length ≤ 1000) ∧ xs[b.toNat]? = some y ∧ ((fl, ρ'), T') = ((Fl.nx, ρ.set i (some (W.loc (.list ((xs.eraseIdx b.toNat).take a.toNat ++ y :: (xs.eraseIdx b.toNat).drop a.toNat))))), T) := by
  unfold insPK at h
  split at h
  · split at h
    · rename_i h2
      split at h
      · rename_i y hy
        exact ⟨_, _, _, y, rfl, rfl, rfl, h2, hy, (Option.some.inj h).symm⟩
      · cases h
    · cases h
  · cases h
noncomputable def fInsP (i : Nat) (f g : FE) : FS := fun ρ T => bnd (f ρ T) fun w1 T1 => bnd (g ρ T1) fun w2 T2 => insPK i ρ w1 w2 T2 ρ[i]?
theorem ds_insP {i : Nat} {x : Str} {e' : Expr} {fk : FE} {p p2 apos apos2 cpos2 : Pos} (hk : DE X e fk) (he : DE X e' fe) (hN : X.N[i]? = some x := by rfl) (hv : Vis X.env.scope x := by first | exact Or.inl rfl | exact Or.inr (Or.inl rfl) | exact Or.inr (Or.inr rfl)) (hd : (x == ("__debug__" : Str)) = false := by decide)
    (hcd : (x == ("__classdict__" : Str)) = false := by decide) {cpos : Pos}
    (hbase : attributeBase (.Name x p) "insert" X.env (eval (.Name x p) X.env) = eval (.Name x p) X.env := by rfl)
    (hbase2 : attributeBase (.Name x p2) "pop" X.env (eval (.Name x p2) X.env) = eval (.Name x p2) X.env := by rfl)
    (hfew : ((backTo cpos (starEach [e, .Call (.Attribute (.Name x p2) "pop" apos2) [e'] [] cpos2] X.env)).all (fun x => !x.1) && (backToKw cpos (keywordEach [] X.env)).all (fun x => x.1.isSome)
      && decide (([e, .Call (.Attribute (.Name x p2) "pop" apos2) [e'] [] cpos2] : List Expr).length + ([] : List Keyword).length + (if ([] : List Keyword).isEmpty then 0 else 1) < 30)) = true := by exact few2 rfl rfl)
    (hfew2 : ((backTo cpos2 (starEach [e'] X.env)).all (fun x => !x.1) && (backToKw cpos2 (keywordEach [] X.env)).all (fun x => x.1.isSome)
      && decide (([e'] : List Expr).length + ([] : List Keyword).length + (if ([] : List Keyword).isEmpty then 0 else 1) < 30)) = true := by exact few1 rfl)
    (hline : (apos.endLine == cpos.line) = true := by rfl) (hline2 : (apos2.endLine == cpos2.line) = true := by rfl)
    (hse : starEach [e, .Call (.Attribute (.Name x p2) "pop" apos2) [e'] [] cpos2] X.env = (false, eval e X.env) :: starEach [.Call (.Attribute (.Name x p2) "pop" apos2) [e'] [] cpos2] X.env := by exact star_cons rfl)
    (hse2 : starEach [.Call (.Attribute (.Name x p2) "pop" apos2) [e'] [] cpos2] X.env = (false, eval (.Call (.Attribute (.Name x p2) "pop" apos2) [e'] [] cpos2) X.env) :: starEach [] X.env := by exact star_cons rfl)
    (hse3 : starEach [e'] X.env = (false, eval e' X.env) :: starEach [] X.env := by exact star_cons rfl)
    (hplain : (backTo cpos (starEach [.Call (.Attribute (.Name x p2) "pop" apos2) [e'] [] cpos2] X.env)).any (·.1) = false := by exact star_any rfl) (hplain2 : (backTo cpos2 (starEach [] X.env)).any (·.1) = false := by exact star_any rfl)
    (hs : swapsWith (.Call (.Attribute (.Name x p) "insert" apos) [e, .Call (.Attribute (.Name x p2) "pop" apos2) [e'] [] cpos2] [] cpos) none pos.line X.env = pure false := by rfl) :
    DS X (.Expr (.Call (.Attribute (.Name x p) "insert" apos) [e, .Call (.Attribute (.Name x p2) "pop" apos2) [e'] [] cpos2] [] cpos) pos) (fInsP i fk fe) := by
  refine ⟨?_⟩
  refine ps_imp (ps_expr (pe_bm PySem.F.plainAttrs_list PySem.F.slot_list_insert PySem.F.type_list_insert mt_insert (pv i hN hv hd hcd) (pa_cons hk.pe (pa_cons (pe_bm PySem.F.plainAttrs_list PySem.F.slot_list_pop PySem.F.type_list_pop mt_popAt (pv i hN hv hd hcd) (pa_cons he.pe pa_nil hse3) hbase2 hfew2 hline2 hse3 hplain2) pa_nil hse2) hse) hbase hfew hline hse hplain) hs) fun D σ H => ?_
  rintro ⟨O₀, H₀, F, ts, O, ρ, T, fl, ρ', T', rs, e, q⟩
  obtain ⟨w1, T1, e1, e⟩ := bnd_of e
  obtain ⟨w2, T2, e2, e⟩ := bnd_of e
  obtain ⟨a0, b0, xs, y, rfl, rfl, h1, h2, hy, e3⟩ := insPK_of e
  cases e3
  obtain ⟨v, k1, a, rfl, k2, k3, vs, k4, k5⟩ := rs.re i _ h1
  refine ⟨_, k1, .inl ⟨rfl, vs, SqL.of k4⟩, O, ts, ρ, T, _, _, rs.hc, rs.re, e1, fun u H1 s1 hc1 r1 => ?_⟩
  have rs1 := rs.step s1 hc1
  have k4' := s1 _ _ k3 k4
  have k5' := k5.mono (rs.hc.le s1)
  refine ⟨_, k1, .inl ⟨rfl, vs, SqL.of k4'⟩, O, ts, ρ, T1, _, _, hc1, rs1.re, e2, fun u2 H2 s2 hc2 r2 => ?_⟩
  have rs2 := rs1.step s2 hc2
  cases (show Rep X.K O H1 u (.int a0) from r1)
  cases (show Rep X.K O H2 u2 (.int b0) from r2)
  have l5 := k5.length
  have k5'' : Reps X.K O H2 vs xs := k5'.mono (hc1.le s2)
  obtain ⟨vy, hvy, ry⟩ := k5''.getD hy
  have er : Reps X.K O H2 (vs.eraseIdx b0.toNat) (xs.eraseIdx b0.toNat) := by
    rw [List.eraseIdx_eq_take_drop_succ, List.eraseIdx_eq_take_drop_succ]
    exact (k5''.take _).append (k5''.drop _)
  have le' : (vs.eraseIdx b0.toNat).length = vs.length - 1 := by
    rw [List.length_eraseIdx]
    rw [if_pos (List.getElem?_eq_some_iff.mp hvy).1]
  refine ⟨a, vs, b0, b0.toNat, vy, rfl, rfl, s2 _ _ k3 k4', by omega, hvy, by omega, ?_⟩
  refine ⟨a, vs.eraseIdx b0.toNat, a0, a0.toNat, vy, rfl, rfl, upd_same, rfl, h2.1, by omega, by omega, ?_⟩
  have eu : upd (upd H2 a (.lst (vs.eraseIdx b0.toNat))) a (.lst ((vs.eraseIdx b0.toNat).take a0.toNat ++ vy :: (vs.eraseIdx b0.toNat).drop a0.toNat)) = upd H2 a (.lst ((vs.eraseIdx b0.toNat).take a0.toNat ++ vy :: (vs.eraseIdx b0.toNat).drop a0.toNat)) := funext fun b => by
    by_cases z : b = a
    · subst z; rw [upd_same, upd_same]
    · rw [upd_ne z, upd_ne z, upd_ne z]
  rw [eu]
  exact q O _ _ (rs2.put (us := []) h1 k1 ((er.take _).append (.cons ry (er.drop _))))
theorem readsAll_at {h : Heap} : ∀ {vs : List Value} {ds : List PyData} {as : List Addr} {i : Nat} {v : Value}, ReadsAll h vs ds as → vs[i]? = some v → ∃ d bs, ds[i]? = some d ∧ Reads h v d bs
  | _, _, _, i, _, .nil, hm => by simp at hm
  | _, _, _, 0, _, .cons r rs, hm => by
    simp at hm
    subst hm
    exact ⟨_, _, rfl, r⟩
  | _, _, _, i + 1, _, .cons r rs, hm => by
    obtain ⟨d, bs, h1, h2⟩ := readsAll_at (i := i) rs (by simpa using hm)
    exact ⟨d, bs, by simpa using h1, h2⟩
theorem mt_indexG {k : Nat} (hr : Room k X.A) : MtR X "list.index" (fun x vs H Q => ∃ (O : Addr → Prop) (d1 : PyData) (a : Addr) (us : List V) (ds : List PyData) (y : V) (j : Nat), x = .ref a ∧ vs = [y] ∧ Vw X.K O H y d1 ∧ SqL X.K H a us ∧ Reps X.K O H us ds ∧ SeqAt.shaped d1 = true ∧ ds.all SeqAt.shaped = true ∧ (∃ d, ds[j]? = some d ∧ PyData.eqv d d1 = true) ∧ (∀ m d, m < j → ds[m]? = some d → PyData.eqv d d1 = false) ∧ Q (.int j) H) := by
  intro pins s σ H x vs v us Q I rx rv h
  obtain ⟨O, d1, a, xs, ds, y, j, rfl, rfl, h1, h2, h3, s1, s2, ⟨dj, hj, ej⟩, hno, q⟩ := h
  cases rx
  obtain ⟨u, rfl, ru⟩ := rv.one
  obtain ⟨as, r1⟩ := h1.reads I ru
  obtain ⟨its, rvl, p1, hz⟩ := I.list h2
  obtain ⟨bs, r2, hlen⟩ := h3.reads I rvl
  have hrl := h3.length
  have hil := rvl.length
  obtain ⟨⟨c, d, dt, sl⟩, n, eo, hc, hd, hs⟩ := p1
  dsimp only at hc hd hs
  subst hc hd hs
  have hjl : j < its.length := by have := (List.getElem?_eq_some_iff.mp hj).1; omega
  have hz' : (j : Int) < 2 ^ 63 - 1 := by
    have h1 : j < sizeLine := Nat.lt_of_lt_of_le hjl (by omega)
    have h2 : (sizeLine : Int) ≤ 2 ^ 63 - 1 := by decide
    omega
  have at_ : ∀ (m : Nat) (hm : m < its.length), ∃ d, ds[m]? = some d ∧ eqBy s.heap d1 its[m] = PyData.eqv d d1 := fun m hm => by
    obtain ⟨d, cs, hd, rd⟩ := readsAll_at r2 (List.getElem?_eq_getElem hm)
    exact ⟨d, hd, eqBy_of rd⟩
  refine call_meets PySem.F.slot_list_index ⟨_, eo, rfl⟩ PySem.F.entry_list_index (PySem.F.args_list_index_2 _ _) (PySem.SeqAt.list_indexAt a its.toArray n none sl u (eqBy s.heap d1) j (by simpa using hjl) hz' ?_ fun m hm hmj => ?_) ⟨eo, fun v hv => ?_, ⟨.int j, H, I.tok _, ⟨_, rfl⟩, q⟩⟩
  · obtain ⟨d, hd, k⟩ := at_ j hjl
    show eqBy s.heap d1 its[j] = true
    rw [k]
    rw [hj] at hd
    cases hd
    exact ej
  · have hm' : m < its.length := by simpa using hm
    obtain ⟨d, hd, k⟩ := at_ m hm'
    show eqBy s.heap d1 its[m] = false
    rw [k]
    exact hno m d hmj hd
  · obtain ⟨d, cs, hd, rd⟩ := readsAll_mem r2 (show v ∈ its by simpa using hv)
    rw [eqBy_of rd]
    have sd := List.all_eq_true.mp s2 d hd
    refine SeqAt.eqAt_reads d d1 _ s v u _ _ rd r1 (SeqAt.canLay_of_shaped sd) (SeqAt.canLay_of_shaped s1) (SeqAt.room_of_shaped sd ?_)
    have := hr.un
    show X.A.in1.units + 64 < cLine
    have e : X.A.in1.units ≤ X.A.units + 1 := by simp [Around.in1]
    omega
noncomputable def idxG (x : PyData) : List PyData → Option Nat
  | [] => none
  | d :: r => if PyData.eqv d x = true then some 0 else (idxG x r).map (· + 1)
theorem idxG_of {x : PyData} : ∀ {ds : List PyData} {j : Nat}, idxG x ds = some j → (∃ d, ds[j]? = some d ∧ PyData.eqv d x = true) ∧ ∀ m d, m < j → ds[m]? = some d → PyData.eqv d x = false
  | [], _, h => by cases h
  | d :: r, j, h => by
    unfold idxG at h
    split at h
    · rename_i hx
      cases h
      exact ⟨⟨d, rfl, hx⟩, fun m _ hm => absurd hm (Nat.not_lt_zero _)⟩
    · rename_i hx
      obtain ⟨i, h1, rfl⟩ := Option.map_eq_some_iff.mp h
      obtain ⟨k1, k2⟩ := idxG_of h1
      refine ⟨by simpa using k1, fun m e hm he => ?_⟩
      cases m with
      | zero => simp at he; subst he; simpa using hx
      | succ m => exact k2 m e (by omega) (by simpa using he)
noncomputable def idxGK (xs : List PyData) (w : W) (T : Tp) : Option (W × Tp) := match w with
  | .d x => if SeqAt.shaped x = true ∧ xs.all SeqAt.shaped = true then (match idxG x xs with
    | some j => some (.d (.int (j : Int)), T)
    | none => none) else none
  | _ => none
noncomputable def fIdxG (fo fe : FE) : FE := fun ρ T => bnd (fo ρ T) fun w T1 => match w with
  | .d (.list xs) => bnd (fe ρ T1) (idxGK xs)
  | _ => none
theorem de_indexG {k : Nat} (hr : Room k X.A) {o : Expr} {fo : FE} {apos cpos : Pos} (ho : DE X o fo) (he : DE X e fe)
    (hbase : attributeBase o "index" X.env (eval o X.env) = eval o X.env := by rfl)
    (hfew : ((backTo cpos (starEach [e] X.env)).all (fun x => !x.1) && (backToKw cpos (keywordEach [] X.env)).all (fun x => x.1.isSome)
      && decide (([e] : List Expr).length + ([] : List Keyword).length + (if ([] : List Keyword).isEmpty then 0 else 1) < 30)) = true := by exact few1 rfl)
    (hline : (apos.endLine == cpos.line) = true := by rfl) (hse : starEach [e] X.env = (false, eval e X.env) :: starEach [] X.env := by exact star_cons rfl) (hplain : (backTo cpos (starEach [] X.env)).any (·.1) = false := by exact star_any rfl) :
    DE X (.Call (.Attribute o "index" apos) [e] [] cpos) (fIdxG fo fe) := by
  refine ⟨?_⟩
  refine pe_imp (pe_bm PySem.F.plainAttrs_list PySem.F.slot_list_index PySem.F.type_list_index (mt_indexG hr) ho.pe (pa_cons he.pe pa_nil hse) hbase hfew hline hse hplain) fun σ H Q => ?_
  rintro ⟨O, ts, ρ, T, w, T', hc, re, e, q⟩
  obtain ⟨w1, T1, e1, e⟩ := bnd_of e
  split at e
  · rename_i xs
    obtain ⟨w2, T2, e2, e⟩ := bnd_of e
    refine ⟨O, ts, ρ, T, _, T1, hc, re, e1, fun v1 H1 s1 hc1 r1 => ?_⟩
    obtain ⟨a1, vs1, rfl, t1, q1⟩ := (Vw.rep (show Rep X.K O H1 v1 (.list xs) from r1)).lst
    refine ⟨.inl ⟨rfl, vs1, t1⟩, O, ts, ρ, T1, w2, T2, hc1, re.mono hc s1, e2, fun v2 H2 s2 hc2 r2 => ?_⟩
    have r1' := Rep.mono (hc1.le s2) r1
    obtain ⟨a2, vs2, ea, t2, q2⟩ := (Vw.rep (show Rep X.K O H2 (.ref a1) (.list xs) from r1')).lst
    cases ea
    unfold idxGK at e
    split at e
    · rename_i y
      split at e
      · rename_i hs
        split at e
        · rename_i j h1
          cases e
          obtain ⟨k1, k2⟩ := idxG_of h1
          exact ⟨O, y, a1, vs2, xs, v2, j, rfl, rfl, .rep (show Rep X.K O H2 v2 y from r2), t2, q2, hs.1, hs.2, k1, k2, q _ H2 (s1.trans s2) hc2 (.int _)⟩
        · cases e
      · cases e
    · cases e
  · cases e
end
end D
namespace D
open PySem PySem.Spec PyProof.Rows L2
noncomputable def Ite (K : PySem.W.Frag) (a : Addr) : It :=
  ⟨fun i H => ∃ xs, SqL K H a xs ∧ i < xs.length, fun i H x H' => ∃ p v, H p = none ∧ (∀ xs, SqL K H a xs → xs[i]? = some v) ∧ x = .ref p ∧ H' = upd H p (.tup [.int i, v]), fun i H => ∃ xs, SqL K H a xs ∧ xs.length ≤ i⟩
theorem turn_enum {P : Program} {w : World} {K : PySem.W.Frag} {elts : List Expr} {x1 : Nat} {tpos : Pos} {e it l : Addr} (hei : e ≠ it) : Turn P w K (.Tuple elts x1 tpos) (Ite K l) [e, it] e (fun i h => (∃ old, IsEnum h e it i old) ∧ h.IsListIter it l i) where
  mem := by simp
  obj := fun i h st b hb => by
    obtain ⟨⟨old, a1⟩, ⟨o4, a4, _, d4⟩⟩ := st
    simp only [List.mem_cons, List.not_mem_nil, or_false] at hb
    rcases hb with q | q <;> subst q
    · exact ⟨_, a1, fun v z => nomatch (show Data.fields _ = Data.cell v from z)⟩
    · exact ⟨_, a4, fun v z => by rw [d4] at z; cases z⟩
  keep := fun i h h' st k => by
    obtain ⟨⟨old, a1⟩, a4⟩ := st
    exact ⟨⟨old, k e (by simp) _ a1⟩, a4.at fun o q => k it (by simp) o q⟩
  item := by
    intro X hP hw hK hc i pins s σ H E I hf st hg
    subst hP hw hK
    obtain ⟨xs, hx, k1⟩ := hg
    obtain ⟨⟨old, a1⟩, a4⟩ := st
    obtain ⟨its, rx, px, _⟩ := I.list hx
    obtain ⟨u, hu, ru⟩ := rx.get (List.getElem?_eq_getElem k1)
    refine wpAny_pyNext_enum_item a1 a4 px.isList (x := u) (by simpa using hu) hei fun h' b1 b2 b3 b4 b5 => ?_
    refine ⟨.ref s.heap.objs.size, rfl, wpAny_letOwnedTupleGo_enum b1 fun h'' c1 c2 => ?_⟩
    have hn : H s.heap.objs.size = none := I.hok.fresh (Nat.le_refl _)
    have le : e < s.heap.objs.size := Heap.lt_size a1
    have li : it < s.heap.objs.size := by obtain ⟨_, q, _⟩ := a4; exact Heap.lt_size q
    have T1 : IsTup (s.heap.push { cls := .type "tuple", data := .seq #[.int i s.toks, u] }) s.heap.objs.size #[.int i s.toks, u] := IsTup.new ..
    have I1 : Inv X pins σ (upd H s.heap.objs.size (.tup [.int i, xs[i]])) { s with heap := s.heap.push { cls := .type "tuple", data := .seq #[.int i s.toks, u] } } :=
      I.laid (t' := s.toks) (o := .tup [.int i, xs[i]]) (fun b ob e => Heap.get?_push_of_some _ e) (Nat.le_refl _) ⟨by show 2 ≤ sizeLine; decide, [.int i s.toks, u], .cons ⟨_, rfl⟩ (.cons ru .nil), T1⟩
    have nn : ∀ b ∈ [e, it], b ≠ s.heap.objs.size := fun b hb z => by
      simp only [List.mem_cons, List.not_mem_nil, or_false] at hb
      rcases hb with q | q <;> rw [z] at q
      · exact Nat.ne_of_gt le q
      · exact Nat.ne_of_gt li q
    have f' : ∀ b ∈ [e, it], FpOk X pins (upd H s.heap.objs.size (.tup [.int i, xs[i]])) b := fun b hb => by
      obtain ⟨f0, fr⟩ := hf b hb
      exact ⟨by rw [upd_ne (nn b hb)]; exact f0, fr⟩
    have I2 : Inv X pins σ (upd H s.heap.objs.size (.tup [.int i, xs[i]])) { s with heap := h'', toks := s.toks + 1 } := turnedN (s := { s with heap := s.heap.push { cls := .type "tuple", data := .seq #[.int i s.toks, u] } }) (t' := s.toks + 1) (h' := h'') (fp := [e, it]) I1 (fun b ob hb q => by
      simp only [List.mem_cons, List.not_mem_nil, or_false, not_or] at hb
      by_cases z : b = s.heap.objs.size
      · subst z
        have e' : some _ = some ob := (Heap.get?_push_size _ rfl).symm.trans q
        cases e'
        exact (c2.2 _ hb.1).trans b3
      · rw [Heap.get?_push_ne _ _ _ z] at q
        exact (c2.2 b hb.1).trans (b5 b ob hb.1 hb.2 q)) f'
    refine ⟨.ref s.heap.objs.size, _, I2, rfl, ⟨s.heap.objs.size, xs[i], hn, fun xs' h => by rw [I.list_inj h hx]; exact List.getElem?_eq_getElem k1, rfl, rfl⟩, ?_, fun b hb => (f' b hb).1⟩
    exact ⟨⟨u, by simpa using c1⟩, b2.at fun o q => (c2.2 it hei.symm).trans q⟩
  done := by
    intro X hP hw hK hc i pins s σ H E I hf st hg
    subst hP hw hK
    obtain ⟨xs, hx, k⟩ := hg
    obtain ⟨⟨old, a1⟩, a4⟩ := st
    obtain ⟨its, rx, px, _⟩ := I.list hx
    have h1 := rx.length
    refine wpAny_pyNext_enum_end (I.ok.hd hc) a1 a4 px.isList (by simp; omega) fun h' b7 => ⟨rfl, turnedN (t' := s.toks) (fp := [e, it]) I (fun b ob hb q => ?_) hf⟩
    simp only [List.mem_cons, List.not_mem_nil, or_false, not_or] at hb
    exact b7 b ob hb.2 q
  self := fun _ _ _ _ _ st h => by
    obtain ⟨⟨old, a1⟩, _⟩ := st
    exact wpAny_pyIter_enum a1 h
section
variable {X : Cx} {pos : Pos}
noncomputable def iEnum (K : PySem.W.Frag) (ta : TA) : TI := fun σ H R => ta σ H fun vs H1 => ∃ a xs, vs = [.ref a] ∧ SqL K H1 a xs ∧ (xs.length ≤ sizeLine → R (Ite K a) H1)
theorem pi_enum {a : Expr} {ta : TA} {elts : List Expr} {x1 : Nat} {tpos p : Pos} (hg : Gl X "enumerate") (hm : X.mg "enumerate" = none) (ha : PA X [a] ta) (hs : starEach [a] X.env = [(false, eval a X.env)]) :
    PI X (.Tuple elts x1 tpos) (.Call (.Name "enumerate" p) [a] [] pos) (iEnum X.K ta) := by
  intro pins s σ H R I h
  refine Call_ (ld_blt I hg hm boot_enumerate (PyProof.Rows.callWith_type1 (thn (ha pos pins s σ H _ I h) fun us s1 ⟨vs, H1, I1, r1, q1⟩ => ?_) hs rfl))
  obtain ⟨l, xs, e, hx, q⟩ := q1
  subst e
  cases r1 with
  | cons r rr =>
    cases rr
    cases r
    obtain ⟨its, rx, px, zx⟩ := I1.list hx
    refine call_enumerate_list px.isList fun h' c1 c2 c3 c7 => ?_
    have I2 : Inv X pins σ H1 { s1 with heap := h' } := I1.kept (t' := s1.toks) c7
    refine wpAny_pyIter_enum c1 ⟨s1.heap.objs.size + 1, [s1.heap.objs.size + 1, s1.heap.objs.size], _, _, H1, rfl, I2, turn_enum (Nat.succ_ne_self _), ⟨⟨_, c1⟩, c2⟩, fun b hb => ?_, q zx⟩
    have hb' : s1.heap.objs.size ≤ b := by
      simp only [List.mem_cons, List.not_mem_nil, or_false] at hb
      rcases hb with q | q <;> rw [q] <;> first | exact Nat.le_add_right _ _ | exact Nat.le_refl _
    exact I1.fpOk hb' (I1.hok.fresh hb')
end
end D
namespace XE
open PySem PySem.Spec PyProof.Rows L2
section
variable {X : Cx} {C R fa : Addr} {k : Nat} {fd : FuncData} {ps : List Str} {sp : Sp}
noncomputable def sTryA (C : Addr) (i j : Nat) (sp : Sp) (t : TA) (ts : Addr → Addr → TS) : TS := fun D σ H => t σ H fun vs H1 => sp vs H1 (fun v H2 => ∀ p q, H2 p = none → upd H2 p (.tup []) q = none → D.nx (σ.set j (some (.ref q))) (upd (upd H2 p (.tup [])) q (.tup [v, .ref p]))) fun cv od H2 => cv = .ref C ∧ ∃ dx, od = some dx ∧
  ∀ e, ts e dx { nx := fun σ' => D.nx (σ'.set i none), rt := D.rt, bk := fun σ' => D.bk (σ'.set i none), ct := fun σ' => D.ct (σ'.set i none) } (σ.set i (some (.ref e))) H2
theorem ps_tryA {fn rn n y : Str} {e : Expr} {es : List Expr} {t : TA} {i j : Nat} {b0 : Stmt} {suite : List Stmt} {ts : Addr → Addr → TS} {k1 k2 : Nat} {p cp ep p2 hpos pos yp tp up : Pos} (F : FnOk X.prog X.w X.K X.mg X.base (CXx X.prog X.w) k fa fd ps sp) (hr : Room k X.A) (hg : Gl X fn) (hm : X.mg fn = some (.ref fa))
    (hk : PySem.W.keepIn X.K (.ref fa) = true) (hb : Binds X.K fd ps []) (ha : PA X.nox (e :: es) t) (c : XCl X.K C (.ref R :: vE)) (r : XCl X.K R vE) (hgR : Gl X rn) (hmR : X.mg rn = some (.ref R)) (hN : X.N.Nodup) (hs : ∀ e oe dx, oe.cls = .ref C → oe.dict = some dx → (∃ vs, oe.data = .fields vs) → PSs (caught X e oe) (b0 :: suite) (ts e dx))
    (hi : X.N[i]? = some n := by rfl) (hl : X.env.scope.names.lookup n = some .local := by rfl) (hj : X.N[j]? = some y := by rfl) (hly : X.env.scope.names.lookup y = some .local := by rfl) (hfr : X.env.frame = some X.env.locals := by rfl) (hst : X.stack = X.env :: X.outer := by rfl) (hex : X.ex = [] := by rfl)
    (hdb : (fn == ("__debug__" : Str)) = false := by decide) (hdR : (rn == ("__debug__" : Str)) = false := by decide) (he : starEach (e :: es) X.env = (false, eval e X.env) :: starEach es X.env := by rfl) (hpl : (backTo cp (starEach es X.env)).any (·.1) = false := by rfl)
    (hsT : starEach [.Call (.Name fn p) (e :: es) [] cp, .Tuple [] k2 up] X.env = (false, eval (.Call (.Name fn p) (e :: es) [] cp) X.env) :: starEach [.Tuple [] k2 up] X.env := by rfl)
    (hsU : starEach [.Tuple [] k2 up] X.nox.env = (false, eval (.Tuple [] k2 up) X.nox.env) :: starEach [] X.nox.env := by rfl)
    (hsw : swapsWith (.Tuple [.Call (.Name fn p) (e :: es) [] cp, .Tuple [] k2 up] k1 tp) (some (.Name y yp)) ep.line X.env = pure false := by rfl) :
    PS X (.Try [.Assign [.Name y yp] (.Tuple [.Call (.Name fn p) (e :: es) [] cp, .Tuple [] k2 up] k1 tp) ep] [.ExceptHandler (some (.Name rn p2)) (some n) (b0 :: suite) hpos] [] [] pos) (sTryA C i j sp t ts) := by
  intro pins s σ H D I h
  refine wpAny_Try_except (wpAny_execs_cons (wpAny_Assign_Name (wpAny_Tuple_spliced ?_) hsw))
  rw [hsT]
  show wpAny _ _ (spliced ((false, eval (.Call (.Name fn p) (e :: es) [] cp) X.env) :: backTo tp (starEach [.Tuple [] k2 up] X.env))) _ _ s
  refine Calls.spliced_cons ?_
  refine wpAny_Call_Name_kw (ld_glob I hg hm ?_ hdb)
  refine PySem.W.callWith_K (h₀ := X.base) I.ok.mod.kin hk ?_ he hpl
  refine wpAny_mono (ha cp pins s σ H _ (I.wish _) h) (fun us s1 ⟨vs, H1, I1', rv, q⟩ => ?_) fun _ _ z => False.elim z
  have I1 : L2.Inv X pins σ H1 s1 := I1'.unwish
  refine ⟨I1.kIn, ?_⟩
  have hlen : us.length = ps.length := by rw [← rv.length]; exact F.len _ _ _ _ q
  refine wpAny_call (codeAny_mono (F.run X.A X.stack s1 H1 ⟨us, []⟩ us vs _ _ hr I1.env0 (by simpa using hb s1 us I1.kIn (by simpa using hlen)) rv q) fun res s2 hq => ?_)
  cases res with
  | ok fl =>
    cases fl with
    | ret u =>
      obtain ⟨v, H2, I2, r2, q2⟩ := I1.after hq
      have hU : PA X.nox [.Tuple [] k2 up] (tCons (tTup tNil) tNil) := pa_cons (pe_tup pa_nil) pa_nil hsU
      refine wpAny_mono (hU tp pins s2 σ H2 (fun xs H3 => ∃ p, H2 p = none ∧ xs = [.ref p] ∧ H3 = upd H2 p (.tup [])) (I2.wish _) ⟨Nat.zero_le _, fun p hp => ⟨p, hp, rfl, rfl⟩⟩) (fun us3 s3 ⟨xs, H3, I3', r3, p0, hp0, e1, e2⟩ => ?_) fun _ _ z => False.elim z
      subst e1 e2
      have I3 : L2.Inv X pins σ (upd H2 p0 (.tup [])) s3 := I3'.unwish
      have hz : (2 : Nat) ≤ sizeLine := by decide
      have rr : Vals [v, .ref p0] (u :: us3) := .cons r2 r3
      refine ⟨by rw [← rr.length]; exact hz, ?_⟩
      have hf : upd H2 p0 (.tup []) s3.heap.objs.size = none := I3.hok.fresh (Nat.le_refl _)
      have I4 : L2.Inv X pins σ (upd (upd H2 p0 (.tup [])) s3.heap.objs.size (.tup [v, .ref p0])) { s3 with heap := s3.heap.push { cls := .type "tuple", data := .seq (u :: us3).toArray } } :=
        I3.laid (t' := s3.toks) (fun b u e => Heap.get?_push_of_some _ e) (Nat.le_refl _) ⟨hz, _, rr, ⟨_, Heap.get?_push_size _ rfl, rfl, _, rfl⟩⟩
      refine store_ok (i := j) (v := .ref s3.heap.objs.size) I4 hN hj (.inl hly) rfl (fun s5 I5 => ?_) (.inr hly)
      exact wpAny_execs_nil (wpAny_execs_nil ⟨_, _, I5, q2 _ _ hp0 hf⟩)
    | next => exact False.elim hq
    | brk => exact False.elim hq
    | cont => exact False.elim hq
  | error x =>
    obtain ⟨a, C', dx, T, H2, rfl, os2, bare2, un2, hok2, ge, geT, neT, xr, tb, fe, fT, ec, dx', ed, qx⟩ := hq
    cases ec
    cases ed
    have I2 : L2.Inv X pins σ H2 s2 := I1.call' (ch := []) os2 un2 hok2 bare2 (fun b z => absurd z (by simp))
    have st := I2.env0
    have neL : ∀ y, s1.heap.objs.size ≤ y → y ≠ X.env.locals := fun y hy z => Nat.lt_irrefl _ (Nat.lt_of_lt_of_le (z ▸ I1.lt) hy)
    have nef : ∀ y, s1.heap.objs.size ≤ y → y ∉ frs X.stack := fun y hy z => by
      obtain ⟨_, o, ho, _⟩ := I1.stack.mem z
      exact Nat.lt_irrefl _ (Nat.lt_of_lt_of_le (Heap.lt_size ho) hy)
    have go : ∀ (xs : List Addr) (h' : Heap), (∀ y ∈ xs, s1.heap.get? y = none ∧ H2 y = none) → Kp xs (frs X.stack) s2.heap h' → L2.Inv X pins σ H2 { s2 with heap := h' } := fun xs h' nx kp => by
      have lt : ∀ {b : Addr} {o : Obj}, s1.heap.get? b = some o → b ∉ xs := fun q z => by rw [(nx _ z).1] at q; cases q
      refine I1.call' (ch := []) (s' := { s2 with heap := h' }) os2 ⟨fun b o q n m _ => ?_, fun b o q n m _ => ?_, un2.free, fun b o q _ => ?_, un2.tups, un2.frzs, un2.tbls⟩ (fun b o e => ?_) bare2 (fun b z => absurd z (by simp))
      · exact kp.keep b o (un2.keep b o q n m (by simp)) (lt q) m
      · obtain ⟨sl, e1⟩ := un2.slot b o q n m (by simp)
        obtain ⟨sl', e2⟩ := kp.slot b _ e1 (lt q) m
        exact ⟨sl', e2⟩
      · obtain ⟨o', e1⟩ := un2.there b o q (by simp)
        exact kp.there b o' e1
      · refine (hok2 b o e).stay (fun c' u hc q => ?_) (fun _ q => q) fun _ _ q => q
        have tr : ∃ v, H2 c' = some v := by
          rcases hc with rfl | hc
          · exact ⟨_, e⟩
          · exact ⟨_, hc⟩
        obtain ⟨v, tr⟩ := tr
        refine kp.keep c' u q (fun z => ?_) fun z => ?_
        · rw [(nx c' z).2] at tr; cases tr
        · rw [I2.stkFree c' z] at tr; cases tr
    have frs' : X.A.frames = some (X.env :: X.outer) := by rw [← hst]; exact st.frames
    have funs' : s2.heap.FunFrames X.base (X.env :: X.outer) := by rw [← hst]; exact st.funs
    refine note_on (base := X.base) (outer := X.outer) (L := X.env.locals) frs' funs' hfr xr tb neT fun h3 T3 g1 g2 g3 g4 g5 => ?_
    rw [← hst] at g5
    have fT3 : H2 T3 = none := hok2.fresh g1
    refine land_x g2 g3 g4 fun h4 j1 j2 j3 => ?_
    have wid : ∀ {x : Addr} {u v : Heap}, Kp [x] [] u v → Kp [x] (frs X.stack) u v := fun k => ⟨fun b o q n _ => k.keep b o q n (by simp), fun b o q n _ => ⟨o.slots, k.keep b o q n (by simp)⟩, k.there⟩
    have kp4 : Kp [a, T, T3] (frs X.stack) s2.heap h4 := (g5.more fun x hx => by simp at hx; rcases hx with z | z <;> simp [z]).trans ((wid j3).more fun x hx => by simp at hx; simp [hx])
    have nx : ∀ y ∈ [a, T, T3], s1.heap.get? y = none ∧ H2 y = none := fun y hy => by
      simp at hy
      rcases hy with rfl | rfl | rfl
      · exact ⟨Heap.get?_none_of_le ge, fe⟩
      · exact ⟨Heap.get?_none_of_le geT, fT⟩
      · refine ⟨?_, fT3⟩
        cases z : s1.heap.get? y with
        | none => rfl
        | some o =>
          obtain ⟨o', e1⟩ := un2.there y o z (by simp)
          exact absurd (Heap.lt_size e1) (Nat.not_lt.mpr g1)
    have I4 := go _ h4 nx kp4
    obtain ⟨t4, he4⟩ := id j1
    have pin : ∀ {h' : Heap}, h'.get? a = some { cls := .ref C, dict := some dx, data := .fields #[.ref t4, .ref T3, .none, .none, .bool false, .none] } → h'.get? a = some { cls := .ref C, dict := some dx, data := .fields #[.ref t4, .ref T3, .none, .none, .bool false, .none] } ∧ H2 a = none ∧ a ≠ X.env.locals ∧ a ∉ X.fs ∧ ∀ v, (Data.fields #[.ref t4, .ref T3, .none, .none, .bool false, .none]) ≠ .cell v := fun e =>
      ⟨e, fe, neL a ge, fun z => nef a ge (by rw [hst]; unfold frs; rw [List.filterMap_cons, hfr]; exact List.mem_cons_of_mem _ z), fun _ z => nomatch z⟩
    let oe : Obj := { cls := .ref C, dict := some dx, data := .fields #[.ref t4, .ref T3, .none, .none, .bool false, .none] }
    have I5 : L2.Inv (caught X a oe) pins σ H2 { s2 with heap := h4 } := caught_inv I4 (pin he4)
    refine wpAny_handleBy_cons (codeAny_handlers_test ?_) (by intro z; cases z)
    refine ld_glob (X := caught X a oe) I5 hgR hmR ?_ hdR
    refine matches_x I5.kIn c r he4 rfl ?_
    refine codeAny_handlers_suite_as ?_
    refine land_x j1 j2 g4 fun h6 l1 l2 l3 => ?_
    have I6 := go _ h6 nx (kp4.trans ((wid l3).more fun x hx => by simp at hx; simp [hx]))
    have he6 : h6.get? a = some oe := l3.keep a _ he4 (by simp; exact g4.symm) (by simp)
    have I7 : L2.Inv (caught X a oe) pins σ H2 { s2 with heap := h6 } := caught_inv I6 (pin he6)
    refine store_ok (X := caught X a oe) (i := i) (v := .ref a) I7 hN hi (.inl hl) rfl (fun s8 I8 => ?_) (.inr hl)
    refine wpAny_mono (hs a oe dx rfl rfl ⟨_, rfl⟩ pins s8 _ H2 _ I8 (qx a)) (fun f s9 sp9 => ?_) fun _ _ z => False.elim z
    show wpAny _ _ (do bindName X.env n .none; unbindBehindTheSuite X.env n hpos) _ _ _
    cases f with
    | next =>
      obtain ⟨σ9, H9, I9, q9⟩ := sp9
      exact name_goes (caught_back I.ok I9) hN hi hl fun s' I' => ⟨_, _, I', q9⟩
    | brk =>
      obtain ⟨σ9, H9, I9, q9⟩ := sp9
      exact name_goes (caught_back I.ok I9) hN hi hl fun s' I' => ⟨_, _, I', q9⟩
    | cont =>
      obtain ⟨σ9, H9, I9, q9⟩ := sp9
      exact name_goes (caught_back I.ok I9) hN hi hl fun s' I' => ⟨_, _, I', q9⟩
    | ret u =>
      obtain ⟨v9, σ9, H9, I9, r9, q9⟩ := sp9
      exact name_goes (caught_back I.ok I9) hN hi hl fun s' I' => ⟨_, _, _, I', r9, q9⟩
end
end XE
namespace D
open PySem PySem.Spec PyProof.Rows L2
section
variable {X : Cx} {e k : Expr} {fe fk : FE} {pos : Pos}
noncomputable def putLK (i : Nat) (ρ : Rho) (x : PyData) (j : Int) (T : Tp) (o : Option (Option W)) : Option ((Fl × Rho) × Tp) := match o with
  | some (some (.loc (.list xs))) => (match ixN xs.length j with
      | some m => some ((.nx, ρ.set i (some (.loc (.list (xs.set m x))))), T)
      | none => none)
  | _ => none
noncomputable def putLW (i : Nat) (ρ : Rho) (w n : W) (T : Tp) : Option ((Fl × Rho) × Tp) := match w, n with
  | .d x, .d (.int j) => putLK i ρ x j T ρ[i]?
  | _, _ => none
noncomputable def fPutL (i : Nat) (fk fe : FE) : FS := fun ρ T => bnd (fe ρ T) fun w T1 => bnd (fk ρ T1) (putLW i ρ w)
theorem ds_putL {i : Nat} {x : Str} {p tpos : Pos} (hk : DE X k fk) (he : DE X e fe) (hN : X.N[i]? = some x := by rfl) (hv : Vis X.env.scope x := by first | exact Or.inl rfl | exact Or.inr (Or.inl rfl) | exact Or.inr (Or.inr rfl)) (hd : (x == ("__debug__" : Str)) = false := by decide)
    (hcd : (x == ("__classdict__" : Str)) = false := by decide)
    (ha : ∀ v, assign (.Subscript (.Name x p) k tpos) X.env v = (do
      let ov ← holding [v] (eval (.Name x p) X.env)
      let iv ← holding [v, ov] (eval k X.env)
      standAt tpos
      holding [v, ov, iv] (setItem ov iv v)
      release [v, ov, iv] []) := by intro _; rfl)
    (hs : swapsWithSole [.Subscript (.Name x p) k tpos] e pos.line X.env = pure false := by rfl) (hw : swappedStores [.Subscript (.Name x p) k tpos] e X.env = pure none := by rfl)
    (h1 : (assignEach [.Subscript (.Name x p) k tpos] X.env).map (·.2) = [assign (.Subscript (.Name x p) k tpos) X.env] := by rfl) : DS X (.Assign [.Subscript (.Name x p) k tpos] e pos) (fPutL i fk fe) := by
  refine ⟨?_⟩
  refine ps_imp (ps_asg he.pe (pg_sub (pv i hN hv hd hcd) hk.pe set_list ha) hs hw h1) fun D σ H => ?_
  rintro ⟨O₀, H₀, F, ts, O, ρ, T, fl, ρ', T', rs, e, q⟩
  obtain ⟨w, T1, e1, e⟩ := bnd_of e
  obtain ⟨wk, T3, e3, e⟩ := bnd_of e
  refine ⟨O, ts, ρ, T, w, T1, rs.hc, rs.re, e1, fun v H1 s1 hc1 r1 => ?_⟩
  have rs1 := rs.step s1 hc1
  unfold putLW at e
  split at e
  · unfold putLK at e
    split at e
    · rename_i xs hx
      split at e
      · rename_i m hm
        cases e
        obtain ⟨u, k1, a, rfl, k2, k3, vs, k4, k5⟩ := rs1.re i _ hx
        refine ⟨_, k1, O, ts, ρ, T1, _, _, hc1, rs1.re, e3, fun vk H3 s3 hc3 r3 => ?_⟩
        have rs3 := rs1.step s3 hc3
        cases (show Rep X.K O H3 vk (.int _) from r3)
        have k6 := s3 _ _ k3 k4
        refine ⟨a, vs, _, m, rfl, rfl, k6, by rw [k5.length]; exact hm, q O _ _ (rs3.put (us := []) hx k1 (Reps.set ?_ m (k5.mono (hc1.le s3))))⟩
        exact Rep.mono (hc1.le s3) r1
      · cases e
    · cases e
  · cases e
@[simp] theorem ev_putL {i : Nat} {ρ : Rho} {T : Tp} : fPutL i fk fe ρ T = bnd (fe ρ T) fun w T1 => bnd (fk ρ T1) (putLW i ρ w) := rfl
@[simp] theorem ev_putLW {i : Nat} {ρ : Rho} {T : Tp} {x : PyData} {j : Int} : putLW i ρ (.d x) (.d (.int j)) T = putLK i ρ x j T ρ[i]? := rfl
end
end D
namespace XE
open PySem PySem.Spec PyProof.Rows L2 D
theorem xb_mk6 {K : PySem.W.Frag} {C R A1 A2 A3 A4 A5 A6 : Addr} {f : Str} {nm q nm' q' : Str} {N N' : Addr} {bs bs' sub sub' : List Value} {sn sn' : List Str} {ab ab' : Bool} {col col' : Option Bool} {dd dd' : Option Addr} {k0 k1 k2 k3 k5 j0 j1 j2 j3 j5 : Option Value} {oN oN' : Obj}
    (lC : K.lookup C = some (excClassObj nm q C N bs (.ref R :: vE) true sn sub ab col dd k0 k1 k2 k3 k5 "ValueError.__new__")) (nC : K.lookup N = some oN)
    (lR : K.lookup R = some (excClassObj nm' q' R N' bs' vE true sn' sub' ab' col' dd' j0 j1 j2 j3 j5 "ValueError.__new__")) (nR : K.lookup N' = some oN') (ri : PySem.W.nsIn K N' "__init__" = some none) (kp : PySem.W.keepIn K (.ref C) = true)
    (bm : PySem.W.mroIn K C (.type "BaseException") = some true) (gt : PySem.W.findIn K (.ref C) "__getattr__" = some none) (ga : PySem.W.findIn K (.ref C) "__getattribute__" = some (some (.builtin "BaseException.__getattribute__")))
    (ca : PySem.W.findIn K (.ref C) "__class__" = some (some (.builtin "object.__class__"))) (hn : PySem.W.specialIn K (.builtin "object.__class__") "__get__" = some (some (.builtin "getset_descriptor.__get__")))
    (tk : PySem.W.takesIn K (.builtin "object.__class__") = some true) (hm : PySem.W.mroIn K C (.type "object") = some true) (nn : PySem.W.findIn K (.ref C) f = some none) (sa : PySem.W.findIn K (.ref C) "__setattr__" = some (some (.builtin "object.__setattr__")))
    (rd : PySem.W.readsIn K R (.type "type") = true) (fc : PySem.W.findCls K (.ref R) (.type "type") "__init__" = some (.val (.builtin "ValueError.__init__"))) (kV : PySem.W.subIn K (.ref C) (.type "ValueError") = some true)
    (a1 : PySem.W.isClsIn K A1 = true) (b1 : PySem.W.typeIn K (.ref A1) = some (.type "type")) (c1 : PySem.W.subIn K (.ref C) (.ref A1) = some false) (a2 : PySem.W.isClsIn K A2 = true) (b2 : PySem.W.typeIn K (.ref A2) = some (.type "type")) (c2 : PySem.W.subIn K (.ref C) (.ref A2) = some false)
    (a3 : PySem.W.isClsIn K A3 = true) (b3 : PySem.W.typeIn K (.ref A3) = some (.type "type")) (c3 : PySem.W.subIn K (.ref C) (.ref A3) = some false) (a4 : PySem.W.isClsIn K A4 = true) (b4 : PySem.W.typeIn K (.ref A4) = some (.type "type")) (c4 : PySem.W.subIn K (.ref C) (.ref A4) = some false)
    (a5 : PySem.W.isClsIn K A5 = true) (b5 : PySem.W.typeIn K (.ref A5) = some (.type "type")) (c5 : PySem.W.subIn K (.ref C) (.ref A5) = some false) (a6 : PySem.W.isClsIn K A6 = true) (b6 : PySem.W.typeIn K (.ref A6) = some (.type "type")) (c6 : PySem.W.subIn K (.ref C) (.ref A6) = some false)
    (d1 : (Value.ref C == Value.ref A1) = false) (d2 : (Value.ref C == Value.ref A2) = false) (d3 : (Value.ref C == Value.ref A3) = false) (d4 : (Value.ref C == Value.ref A4) = false) (d5 : (Value.ref C == Value.ref A5) = false) (d6 : (Value.ref C == Value.ref A6) = false) (oC : nsOkO oN = true) (oR : nsOkO oN' = true) : XB K C R f [A1, A2, A3, A4, A5, A6] := by
  obtain ⟨x1, x2, x3, x4, x5, x6, x7, x8, x9, x10, x11, x12, _⟩ := xb_mk (A1 := A1) (A2 := A2) (A3 := A3) lC nC lR nR ri kp bm gt ga ca hn tk hm nn sa rd fc kV a1 b1 c1 a2 b2 c2 a3 b3 c3 d1 d2 d3 oC oR
  refine ⟨x1, x2, x3, x4, x5, x6, x7, x8, x9, x10, x11, x12, ?_⟩
  simp only [List.map, PySem.W.kitAny, kit_no a1 b1 c1 d1, kit_no a2 b2 c2 d2, kit_no a3 b3 c3 d3, kit_no a4 b4 c4 d4, kit_no a5 b5 c5 d5, kit_no a6 b6 c6 d6]
noncomputable def spB (K : PySem.W.Frag) (n : Nat) (C : Addr) (f : Str) (m : List W → Tp → Option ((List PyData ⊕ Nat) × Tp)) : Sp := fun vs H Q E => ∃ (O : Addr → Prop) (ts : List Addr) (T : Tp) (ws : List W) (r : List PyData ⊕ Nat) (T' : Tp), HC K O ts H T ∧ RepWs K O ts H vs ws ∧ ws.length = n ∧ noLoc ws = true ∧ m ws T = some (r, T') ∧
  (∀ ys, r = .inl ys → ∀ v H', SameX ts H H' → HC K O ts H' T' → Rep K O H' v (.list ys) → Q v H') ∧
  ∀ k : Nat, r = .inr k → ∀ dx H', SameX ts H H' → HC K O ts H' T' → H' dx = some (.xd [(f, .int (k : Int))]) → E (.ref C) (some dx) H'
end XE
namespace G
open PySem PySem.Spec PyProof.Rows L2 D
noncomputable def m_is_whole : FnM := mkFn 1 (fRet (fAndV (fUn (isiD .int) (fVar 0)) (fNotV (fUn (isiD .bl) (fVar 0)))))
noncomputable def m_has_only : FnM := mkFn 2 (fRet (fCB allD (fCons (fComp (fIter (fVar 0)) fTrue (fBin inD (fVar 0) (fVar 2))) fNil)))
noncomputable def m_is_name : FnM := mkFn 1 (fRet (fAndV (fUn (isiD .str) (fVar 0)) (fAndV (fChain leD leD (fC (.int 1)) (fCB lenD (fCons (fVar 0) fNil)) (fC (.int 8))) (fCall m_has_only (fCons (fVar 0) (fCons (fC (.str (Str.ofString "abcdefghijklmnopqrstuvwxyz"))) fNil))))))
noncomputable def m_is_single : FnM := mkFn 1 (fSeq (fIf (fTru (fCall m_is_whole (fCons (fVar 0) fNil))) (fRet (fBin leD (fCB absD (fCons (fVar 0) fNil)) (fBin powD (fC (.int 10)) (fC (.int 18))))) fNext) (fRet (fAndV (fUn (isiD .str) (fVar 0)) (fAndV (fBin leD (fCB lenD (fCons (fVar 0) fNil)) (fC (.int 20))) (fCall m_has_only (fCons (fVar 0) (fCons (fC (.str (Str.ofString "abcdefghijklmnopqrstuvwxyz0123456789-"))) fNil)))))))
noncomputable def m_is_built : Nat → FnM
  | 0 => fun _ _ => none
  | n + 1 => mkFn 2 (fSeq (fIf (fNotT (fTru (fUn (isiD .tup) (fVar 0)))) (fRet (fCall m_is_single (fCons (fVar 0) fNil))) fNext) (fSeq (fIf (fOrT (fTst (fBin eqD (fVar 1) (fC (.int 0)))) (fTst (fBin gtD (fCB lenD (fCons (fVar 0) fNil)) (fC (.int 8))))) (fRet (fC (.bool false))) fNext) (fRet (fCB allD (fCons (fComp (fIter (fVar 0)) fTrue (fCall (m_is_built n) (fCons (fVar 0) (fCons (fBin subD (fVar 2) (fC (.int 1))) fNil)))) fNil)))))
noncomputable def m_many_of : Nat → FnM
  | 0 => fun _ _ => none
  | n + 1 => mkFn 1 (fSeq (fIf (fNotT (fTru (fUn (isiD .tup) (fVar 0)))) (fRet (fC (.int 1))) fNext) (fRet (fBin addD (fC (.int 1)) (fCB sumD (fCons (fComp (fIter (fVar 0)) fTrue (fCall (m_many_of n) (fCons (fVar 0) fNil))) fNil)))))
noncomputable def m_is_value : FnM := mkFn 1 (fRet (fAndV (fCall (m_is_built 25) (fCons (fVar 0) (fCons (fC (.int 4)) fNil))) (fBin leD (fCall (m_many_of 25) (fCons (fVar 0) fNil)) (fC (.int 40)))))
noncomputable def m_is_figures : FnM := mkFn 1 (fSeq (fIf (fOrT (fTst (fBin eqD (fVar 0) (fC (.str (Str.ofString ""))))) (fNotT (fTru (fCall m_has_only (fCons (fVar 0) (fCons (fC (.str (Str.ofString "0123456789"))) fNil)))))) (fRet (fC (.bool false))) fNext) (fRet (fOrV (fBin eqD (fVar 0) (fC (.str (Str.ofString "0")))) (fNotV (fBin startsD (fVar 0) (fC (.str (Str.ofString "0"))))))))
noncomputable def m_number_by : FnM := mkFn 2 (fSeq (fSet 1 (fIfE (fTru (fBin startsD (fVar 0) (fC (.str (Str.ofString "-"))))) (fSl (fVar 0) (fP (fC (.int 1))) fNoP) (fVar 0))) (fSeq (fIf (fOrT (fTst (fBin eqD (fVar 0) (fC (.str (Str.ofString "-0"))))) (fOrT (fTst (fBin gtD (fCB lenD (fCons (fVar 1) fNil)) (fC (.int 19)))) (fNotT (fTru (fCall m_is_figures (fCons (fVar 1) fNil)))))) (fRet (fC .none)) fNext) (fRet (fCB intD (fCons (fVar 0) fNil)))))
noncomputable def m_single_by : FnM := mkFn 1 (fSeq (fIf (fTru (fBin startsD (fVar 0) (fC (.str (Str.ofString "'"))))) (fRet (fSl (fVar 0) (fP (fC (.int 1))) fNoP)) fNext) (fRet (fCall m_number_by (fCons (fVar 0) fNil))))
noncomputable def m_single_at : FnM := mkFn 4 (fSeq (fSet 2 (fVar 1)) (fSeq (whileF (fAndT (fTst (fBin ltD (fVar 2) (fCB lenD (fCons (fVar 0) fNil)))) (fTst (fBin notInD (fBin ixD (fVar 0) (fVar 2)) (fC (.str (Str.ofString "(),")))))) (fSet 2 (fBin addD (fVar 2) (fC (.int 1)))) 100000) (fSeq (fSet 3 (fCall m_single_by (fCons (fSl (fVar 0) (fP (fVar 1)) (fP (fVar 2))) fNil))) (fRet (fIfE (fTst (fBin isD (fVar 3) (fC .none))) (fC .none) (fSeqD .tuple (fCons (fVar 3) (fCons (fVar 2) fNil))))))))
mutual
noncomputable def m_row_at : Nat → FnM
  | 0 => fun _ _ => none
  | n + 1 => mkFn 6 (fSeq (fIf (fTst (fBin eqD (fSl (fVar 0) (fP (fVar 1)) (fP (fBin addD (fVar 1) (fC (.int 1))))) (fC (.str (Str.ofString ")"))))) (fRet (fSeqD .tuple (fCons (fSeqD .tuple fNil) (fCons (fBin addD (fVar 1) (fC (.int 1))) fNil)))) fNext) (fSeq (fSetL 3 fNil) (whileF (fTru (fC (.bool true))) (fSeq (fSet 4 (fCall (m_value_at n) (fCons (fVar 0) (fCons (fVar 1) (fCons (fVar 2) fNil))))) (fSeq (fIf (fTst (fBin isD (fVar 4) (fC .none))) (fRet (fC .none)) fNext) (fSeq (fApp 3 (fBin ixD (fVar 4) (fC (.int 0)))) (fSeq (fSet 1 (fBin addD (fBin ixD (fVar 4) (fC (.int 1))) (fC (.int 1)))) (fSeq (fSet 5 (fSl (fVar 0) (fP (fBin ixD (fVar 4) (fC (.int 1)))) (fP (fVar 1)))) (fSeq (fIf (fTst (fBin eqD (fVar 5) (fC (.str (Str.ofString ")"))))) (fRet (fSeqD .tuple (fCons (fCB tupleD (fCons (fVar 3) fNil)) (fCons (fVar 1) fNil)))) fNext) (fIf (fTst (fBin neD (fVar 5) (fC (.str (Str.ofString ","))))) (fRet (fC .none)) fNext))))))) 100000)))
noncomputable def m_value_at : Nat → FnM
  | 0 => fun _ _ => none
  | n + 1 => mkFn 3 (fSeq (fIf (fTst (fBin neD (fSl (fVar 0) (fP (fVar 1)) (fP (fBin addD (fVar 1) (fC (.int 1))))) (fC (.str (Str.ofString "("))))) (fRet (fCall m_single_at (fCons (fVar 0) (fCons (fVar 1) fNil)))) fNext) (fSeq (fIf (fTst (fBin eqD (fVar 2) (fC (.int 0)))) (fRet (fC .none)) fNext) (fRet (fCall (m_row_at n) (fCons (fVar 0) (fCons (fBin addD (fVar 1) (fC (.int 1))) (fCons (fBin subD (fVar 2) (fC (.int 1))) fNil)))))))
end
noncomputable def m_value_by : FnM := mkFn 2 (fSeq (fSet 1 (fCall (m_value_at 25) (fCons (fVar 0) (fCons (fC (.int 0)) (fCons (fC (.int 4)) fNil))))) (fSeq (fIf (fOrT (fTst (fBin isD (fVar 1) (fC .none))) (fTst (fBin ltD (fBin ixD (fVar 1) (fC (.int 1))) (fCB lenD (fCons (fVar 0) fNil))))) (fRet (fC .none)) fNext) (fRet (fIfE (fTru (fCall m_is_value (fCons (fBin ixD (fVar 1) (fC (.int 0))) fNil))) (fBin ixD (fVar 1) (fC (.int 0))) (fC .none)))))
noncomputable def m_is_stamp : FnM := mkFn 1 (fRet (fAndV (fUn (isiD .str) (fVar 0)) (fBin isNotD (fCall m_value_by (fCons (fVar 0) fNil)) (fC .none))))
noncomputable def m_is_read : FnM := mkFn 1 (fRet (fAndV (fUn (isiD .tup) (fVar 0)) (fAndV (fBin eqD (fCB lenD (fCons (fVar 0) fNil)) (fC (.int 2))) (fAndV (fCall m_is_name (fCons (fBin ixD (fVar 0) (fC (.int 0))) fNil)) (fCall m_is_stamp (fCons (fBin ixD (fVar 0) (fC (.int 1))) fNil))))))
noncomputable def m_are_reads : FnM := mkFn 1 (fSeq (fIf (fOrT (fNotT (fTru (fUn (isiD .tup) (fVar 0)))) (fTst (fBin gtD (fCB lenD (fCons (fVar 0) fNil)) (fC (.int 12))))) (fRet (fC (.bool false))) fNext) (fRet (fCB allD (fCons (fComp (fIter (fVar 0)) fTrue (fCall m_is_read (fCons (fVar 0) fNil))) fNil))))
noncomputable def m_is_end : FnM := mkFn 1 (fSeq (fIf (fOrT (fNotT (fTru (fUn (isiD .tup) (fVar 0)))) (fOrT (fTst (fBin neD (fCB lenD (fCons (fVar 0) fNil)) (fC (.int 2)))) (fNotT (fTru (fUn (isiD .str) (fBin ixD (fVar 0) (fC (.int 0)))))))) (fRet (fC (.bool false))) fNext) (fSeq (fIf (fTst (fBin eqD (fBin ixD (fVar 0) (fC (.int 0))) (fC (.str (Str.ofString "made"))))) (fRet (fCall m_is_stamp (fCons (fBin ixD (fVar 0) (fC (.int 1))) fNil))) fNext) (fRet (fAndV (fBin inD (fBin ixD (fVar 0) (fC (.int 0))) (fSeqD .tuple (fCons (fC (.str (Str.ofString "fails"))) (fCons (fC (.str (Str.ofString "wants"))) fNil)))) (fCall m_is_name (fCons (fBin ixD (fVar 0) (fC (.int 1))) fNil))))))
noncomputable def m_is_line : FnM := mkFn 1 (fSeq (fIf (fOrT (fNotT (fTru (fUn (isiD .tup) (fVar 0)))) (fOrT (fTst (fBin neD (fCB lenD (fCons (fVar 0) fNil)) (fC (.int 3)))) (fNotT (fTru (fCall m_is_name (fCons (fBin ixD (fVar 0) (fC (.int 0))) fNil)))))) (fRet (fC (.bool false))) fNext) (fRet (fAndV (fCall m_are_reads (fCons (fBin ixD (fVar 0) (fC (.int 1))) fNil)) (fCall m_is_end (fCons (fBin ixD (fVar 0) (fC (.int 2))) fNil)))))
noncomputable def m_line_text : FnM := mkFn 3 (fSeq (fSetL 1 (fCons (fBin ixD (fVar 0) (fC (.int 0))) fNil)) (fSeq (fFor 2 (fIter (fBin ixD (fVar 0) (fC (.int 1)))) (fExtT 1 (fVar 2))) (fRet (fBin joinA (fC (.str (Str.ofString " "))) (fBin addD (fBin addD (fVar 1) (fSeqD .list (fCons (fC (.str (Str.ofString ":"))) fNil))) (fCB listD (fCons (fBin ixD (fVar 0) (fC (.int 2))) fNil)))))))
noncomputable def m_line_by : FnM := mkFn 4 (fSeq (fSet 1 (fBin splitD (fVar 0) (fC (.str (Str.ofString " "))))) (fSeq (fIf (fOrT (fTst (fBin ltD (fCB lenD (fCons (fVar 1) fNil)) (fC (.int 4)))) (fOrT (fTst (fBin neD (fBin modD (fCB lenD (fCons (fVar 1) fNil)) (fC (.int 2))) (fC (.int 0)))) (fTst (fBin neD (fBin ixD (fVar 1) (fUn negD (fC (.int 3)))) (fC (.str (Str.ofString ":"))))))) (fRet (fC .none)) fNext) (fSeq (fSet 2 (fCB tupleD (fCons (fComp (fRng3 (fC (.int 1)) (fBin subD (fCB lenD (fCons (fVar 1) fNil)) (fC (.int 3))) (fC (.int 2))) fTrue (fSeqD .tuple (fCons (fBin ixD (fVar 2) (fVar 0)) (fCons (fBin ixD (fVar 2) (fBin addD (fVar 0) (fC (.int 1)))) fNil)))) fNil))) (fSeq (fSet 3 (fSeqD .tuple (fCons (fBin ixD (fVar 1) (fC (.int 0))) (fCons (fVar 2) (fCons (fSeqD .tuple (fCons (fBin ixD (fVar 1) (fUn negD (fC (.int 2)))) (fCons (fBin ixD (fVar 1) (fUn negD (fC (.int 1)))) fNil))) fNil))))) (fRet (fIfE (fTru (fCall m_is_line (fCons (fVar 3) fNil))) (fVar 3) (fC .none)))))))
noncomputable def m_paper_texts : FnM := mkFn 1 (fRet (fComp (fIter (fVar 0)) fTrue (fCall m_line_text (fCons (fVar 0) fNil))))
noncomputable def m__law_draw : FnM := mkFn 6 (fSeq (fSet 3 (fC (.int 0))) (fSeq (fIf (fTst (fBin gtD (fCB lenD (fCons (fVar 0) fNil)) (fC (.int 0)))) (fSeq (fSet 3 (fBin ixD (fVar 0) (fBin modD (fVar 1) (fCB lenD (fCons (fVar 0) fNil))))) (fSeq (fSet 4 (fBin shrD (fVar 3) (fBin mulD (fC (.int 7)) (fCB minD2 (fCons (fC (.int 90)) (fCons (fBin fdivD (fVar 1) (fCB lenD (fCons (fVar 0) fNil))) fNil)))))) (fIf (fAndT (fTst (fBin geD (fVar 3) (fBin powD (fC (.int 10)) (fC (.int 18))))) (fTst (fBin gtD (fVar 4) (fC (.int 127))))) (fRet (fBin modD (fVar 4) (fVar 2))) fNext))) fNext) (fSeq (fSet 5 (fBin modD (fBin mulD (fBin addD (fBin addD (fBin addD (fBin modD (fVar 3) (fC (.int 999999937))) (fBin mulD (fBin mulD (fC (.int 31)) (fVar 1)) (fVar 1))) (fBin mulD (fC (.int 7)) (fVar 1))) (fC (.int 1))) (fC (.int 48271))) (fC (.int 2147483647)))) (fRet (fBin modD (fBin fdivD (fBin modD (fBin mulD (fBin fdivD (fVar 5) (fC (.int 7))) (fC (.int 69621))) (fC (.int 2147483629))) (fC (.int 5))) (fVar 2))))))
noncomputable def m__law_same : FnM := mkFn 2 (fSeq (fIf (fTru (fUn (isiD .dct) (fVar 1))) fNone fNext) (fRet (fBin eqD (fRepr (fVar 0)) (fRepr (fVar 1)))))
noncomputable def m__law_is_name : FnM := mkFn 1 (fSeq (fIf (fNotT (fTst (fChain leD leD (fC (.int 1)) (fCB lenD (fCons (fVar 0) fNil)) (fC (.int 8))))) (fRet (fC (.bool false))) fNext) (fRet (fCB allD (fCons (fComp (fIter (fVar 0)) fTrue (fBin inD (fVar 0) (fC (.str (Str.ofString "abcdefghijklmnopqrstuvwxyz"))))) fNil))))
noncomputable def m__law_stamps : FnM := mkFn 0 (fRet (fSeqD .list (fCons (fC (.str (Str.ofString "0"))) (fCons (fC (.str (Str.ofString "-3"))) (fCons (fC (.str (Str.ofString "'"))) (fCons (fC (.str (Str.ofString "'a-1"))) (fCons (fC (.str (Str.ofString "()"))) (fCons (fC (.str (Str.ofString "(1,'b)"))) (fCons (fC (.str (Str.ofString "1000000000000000000"))) (fCons (fC (.str (Str.ofString "((),(0))"))) (fCons (fC (.str (Str.ofString "'made"))) fNil)))))))))))
noncomputable def m__law_names : FnM := mkFn 0 (fRet (fSeqD .list (fCons (fC (.str (Str.ofString "a"))) (fCons (fC (.str (Str.ofString "ab"))) (fCons (fC (.str (Str.ofString "abcdefgh"))) (fCons (fC (.str (Str.ofString "made"))) (fCons (fC (.str (Str.ofString "wants"))) (fCons (fC (.str (Str.ofString "fails"))) (fCons (fC (.str (Str.ofString "told"))) (fCons (fC (.str (Str.ofString "b"))) fNil))))))))))
noncomputable def m__law_line : FnM := mkFn 7 (fSeq (fSetL 2 fNil) (fSeq (fFor 3 (fRng1 (fBin ixD (fSeqD .list (fCons (fC (.int 0)) (fCons (fC (.int 1)) (fCons (fC (.int 2)) (fCons (fC (.int 3)) (fCons (fC (.int 12)) (fCons (fC (.int 0)) fNil))))))) (fCall m__law_draw (fCons (fVar 0) (fCons (fVar 1) (fCons (fC (.int 6)) fNil)))))) (fSeq (fSet 4 (fBin ixD (fCall m__law_names fNil) (fCall m__law_draw (fCons (fVar 0) (fCons (fBin addD (fBin addD (fVar 1) (fC (.int 1))) (fBin mulD (fC (.int 2)) (fVar 3))) (fCons (fC (.int 8)) fNil)))))) (fApp 2 (fSeqD .tuple (fCons (fVar 4) (fCons (fBin ixD (fCall m__law_stamps fNil) (fCall m__law_draw (fCons (fVar 0) (fCons (fBin addD (fBin addD (fVar 1) (fC (.int 2))) (fBin mulD (fC (.int 2)) (fVar 3))) (fCons (fC (.int 9)) fNil))))) fNil)))))) (fSeq (fSet 5 (fBin ixD (fSeqD .list (fCons (fC (.str (Str.ofString "made"))) (fCons (fC (.str (Str.ofString "fails"))) (fCons (fC (.str (Str.ofString "wants"))) fNil)))) (fCall m__law_draw (fCons (fVar 0) (fCons (fBin addD (fVar 1) (fC (.int 26))) (fCons (fC (.int 3)) fNil)))))) (fSeq (fSet 6 (fBin ixD (fCall m__law_names fNil) (fCall m__law_draw (fCons (fVar 0) (fCons (fBin addD (fVar 1) (fC (.int 27))) (fCons (fC (.int 8)) fNil)))))) (fSeq (fIf (fTst (fBin eqD (fVar 5) (fC (.str (Str.ofString "made"))))) (fSet 6 (fBin ixD (fCall m__law_stamps fNil) (fCall m__law_draw (fCons (fVar 0) (fCons (fBin addD (fVar 1) (fC (.int 28))) (fCons (fC (.int 9)) fNil)))))) fNext) (fRet (fSeqD .tuple (fCons (fBin ixD (fCall m__law_names fNil) (fCall m__law_draw (fCons (fVar 0) (fCons (fBin addD (fVar 1) (fC (.int 29))) (fCons (fC (.int 8)) fNil))))) (fCons (fCB tupleD (fCons (fVar 2) fNil)) (fCons (fSeqD .tuple (fCons (fVar 5) (fCons (fVar 6) fNil))) fNil))))))))))
noncomputable def m__law_text : FnM := mkFn 4 (fSeq (fSet 1 (fSeqD .list (fCons (fBin ixD (fVar 0) (fC (.int 0))) fNil))) (fSeq (fForT 2 3 (fIter (fBin ixD (fVar 0) (fC (.int 1)))) (fSet 1 (fBin addD (fVar 1) (fSeqD .list (fCons (fVar 2) (fCons (fVar 3) fNil)))))) (fRet (fBin joinA (fC (.str (Str.ofString " "))) (fBin addD (fBin addD (fVar 1) (fSeqD .list (fCons (fC (.str (Str.ofString ":"))) fNil))) (fCB listD (fCons (fBin ixD (fVar 0) (fC (.int 2))) fNil)))))))
noncomputable def m__law_read : FnM := mkFn 6 (fSeq (fSet 1 (fBin splitD (fVar 0) (fC (.str (Str.ofString " "))))) (fSeq (fIf (fOrT (fTst (fBin ltD (fCB lenD (fCons (fVar 1) fNil)) (fC (.int 4)))) (fOrT (fTst (fBin neD (fBin ixD (fVar 1) (fUn negD (fC (.int 3)))) (fC (.str (Str.ofString ":"))))) (fOrT (fTst (fBin neD (fBin modD (fCB lenD (fCons (fVar 1) fNil)) (fC (.int 2))) (fC (.int 0)))) (fTst (fBin gtD (fCB lenD (fCons (fVar 1) fNil)) (fC (.int 28))))))) (fRet (fC .none)) fNext) (fSeq (fSet 2 (fComp (fRng3 (fC (.int 1)) (fBin subD (fCB lenD (fCons (fVar 1) fNil)) (fC (.int 3))) (fC (.int 2))) fTrue (fSeqD .tuple (fCons (fBin ixD (fVar 2) (fVar 0)) (fCons (fBin ixD (fVar 2) (fBin addD (fVar 0) (fC (.int 1)))) fNil))))) (fSeq (fIf (fNotT (fTru (fCB allD (fCons (fComp2 (fIter (fVar 2)) fTrue (fAndV (fCall m__law_is_name (fCons (fVar 0) fNil)) (fBin inD (fVar 1) (fCall m__law_stamps fNil)))) fNil)))) (fRet (fC .none)) fNext) (fSeq (fUnpL 3 4 (fSl (fVar 1) (fP (fUn negD (fC (.int 2)))) fNoP)) (fSeq (fSet 5 (fAndV (fBin inD (fVar 3) (fSeqD .tuple (fCons (fC (.str (Str.ofString "fails"))) (fCons (fC (.str (Str.ofString "wants"))) fNil)))) (fCall m__law_is_name (fCons (fVar 4) fNil)))) (fSeq (fIf (fTst (fBin eqD (fVar 3) (fC (.str (Str.ofString "made"))))) (fSet 5 (fBin inD (fVar 4) (fCall m__law_stamps fNil))) fNext) (fSeq (fIf (fOrT (fNotT (fTru (fVar 5))) (fNotT (fTru (fCall m__law_is_name (fCons (fBin ixD (fVar 1) (fC (.int 0))) fNil))))) (fRet (fC .none)) fNext) (fRet (fSeqD .tuple (fCons (fBin ixD (fVar 1) (fC (.int 0))) (fCons (fCB tupleD (fCons (fVar 2) fNil)) (fCons (fSeqD .tuple (fCons (fVar 3) (fCons (fVar 4) fNil))) fNil)))))))))))))
noncomputable def m__law_bent : FnM := mkFn 8 (fSeq (fSetA 3 (fBin addD (fCall m__law_names fNil) (fCall m__law_stamps fNil)) (fSeqD .list (fCons (fC (.str (Str.ofString ":"))) (fCons (fC (.str (Str.ofString ""))) (fCons (fC (.str (Str.ofString "A"))) (fCons (fC (.str (Str.ofString "abcdefghi"))) (fCons (fC (.str (Str.ofString "01"))) (fCons (fC (.str (Str.ofString "-0"))) (fCons (fC (.str (Str.ofString "'A"))) (fCons (fC (.str (Str.ofString "(1,)"))) (fCons (fC (.str (Str.ofString "("))) (fCons (fC (.str (Str.ofString "1)"))) (fCons (fC (.str (Str.ofString "x1"))) (fCons (fC (.str (Str.ofString "::"))) fNil)))))))))))))) (fSeq (fApp 3 (fC (.str (Str.ofString "1000000000000000001")))) (fSeq (fSetSp 4 (fVar 2) (fC (.str (Str.ofString " ")))) (fSeq (fSet 5 (fCall m__law_draw (fCons (fVar 0) (fCons (fVar 1) (fCons (fCB lenD (fCons (fVar 4) fNil)) fNil))))) (fSeq (fSet 6 (fBin ixD (fVar 3) (fCall m__law_draw (fCons (fVar 0) (fCons (fBin addD (fVar 1) (fC (.int 1))) (fCons (fCB lenD (fCons (fVar 3) fNil)) fNil)))))) (fSeq (fSet 7 (fCall m__law_draw (fCons (fVar 0) (fCons (fBin addD (fVar 1) (fC (.int 2))) (fCons (fC (.int 7)) fNil))))) (fSeq (fIf (fTst (fBin eqD (fVar 7) (fC (.int 0)))) (fRet (fBin joinA (fC (.str (Str.ofString " "))) (fBin addD (fSl (fVar 4) fNoP (fP (fVar 5))) (fSl (fVar 4) (fP (fBin addD (fVar 5) (fC (.int 1)))) fNoP)))) fNext) (fSeq (fIf (fTst (fBin eqD (fVar 7) (fC (.int 1)))) (fRet (fBin joinA (fC (.str (Str.ofString " "))) (fBin addD (fSl (fVar 4) fNoP (fP (fBin addD (fVar 5) (fC (.int 1))))) (fSl (fVar 4) (fP (fVar 5)) fNoP)))) fNext) (fSeq (fIf (fTst (fBin eqD (fVar 7) (fC (.int 2)))) (fSeq (fInsP 4 (fVar 5) (fBin modD (fBin addD (fVar 5) (fC (.int 1))) (fCB lenD (fCons (fVar 4) fNil)))) (fRet (fBin joinA (fC (.str (Str.ofString " "))) (fVar 4)))) fNext) (fSeq (fIf (fTst (fBin eqD (fVar 7) (fC (.int 3)))) (fRet (fBin joinA (fC (.str (Str.ofString " "))) (fBin addD (fBin addD (fSl (fVar 4) fNoP (fP (fVar 5))) (fSeqD .list (fCons (fVar 6) fNil))) (fSl (fVar 4) (fP (fVar 5)) fNoP)))) fNext) (fRet (fBin joinA (fC (.str (Str.ofString " "))) (fBin addD (fBin addD (fSl (fVar 4) fNoP (fP (fVar 5))) (fSeqD .list (fCons (fVar 6) fNil))) (fSl (fVar 4) (fP (fBin addD (fVar 5) (fC (.int 1)))) fNoP))))))))))))))
noncomputable def ppL : List PyData → Nat → List PyData → Tp → Option ((List PyData ⊕ Nat) × Tp)
  | [], _, acc, T => some (.inl acc, T)
  | t :: r, k, acc, T => bnd (m_line_by [.d t] T) fun l T1 => if isNone l = true then some (.inr k, T1) else if acc.length < 1000 then ppL r (k + 1) (acc ++ [l]) T1 else none
noncomputable def x_paper (ws : List D.W) (T : Tp) : Option ((List PyData ⊕ Nat) × Tp) := match ws with
  | [.d (.list ts)] => if ts.length ≤ 1000 then ppL ts 0 [] T else none
  | _ => none
noncomputable def toldK (r : List PyData ⊕ Nat) (T : Tp) : Option (PyData × Tp) := match r with
  | .inl ys => some (.tuple [.list ys, .tuple []], T)
  | .inr k => some (.tuple [.int k, .tuple [.bool true, .bool false]], T)
noncomputable def m__law_told : FnM := fun ws T => bnd (x_paper ws T) toldK
noncomputable def m__law_paper_right : FnM := mkFn 4 (fSeq (fSet 1 (fComp (fIter (fVar 0)) fTrue (fCall m__law_read (fCons (fVar 0) fNil)))) (fSeq (fSet 2 (fCB listD (fCons (fVar 0) fNil))) (fSeq (fSet 3 (fCall m__law_told (fCons (fVar 2) fNil))) (fSeq (fIf (fTst (fBin neG (fVar 2) (fVar 0))) (fRet (fC (.bool false))) fNext) (fSeq (fIf (fTst (fBin inGM (fC .none) (fVar 1))) (fRet (fCall m__law_same (fCons (fVar 3) (fCons (fSeqD .tuple (fCons (fIdxG (fVar 1) (fC .none)) (fCons (fSeqD .tuple (fCons (fC (.bool true)) (fCons (fC (.bool false)) fNil))) fNil))) fNil)))) fNext) (fRet (fCall m__law_same (fCons (fVar 3) (fCons (fSeqD .tuple (fCons (fVar 1) (fCons (fSeqD .tuple fNil) fNil))) fNil)))))))))
noncomputable def m_law : FnM := mkFn 8 (fSeq (fSet 1 (fComp (fRng1 (fBin addD (fC (.int 1)) (fCall m__law_draw (fCons (fVar 0) (fCons (fC (.int 0)) (fCons (fC (.int 4)) fNil)))))) fTrue (fCall m__law_line (fCons (fVar 1) (fCons (fBin addD (fC (.int 10)) (fBin mulD (fC (.int 30)) (fVar 0))) fNil))))) (fSeq (fSet 2 (fComp (fIter (fVar 1)) fTrue (fCall m__law_text (fCons (fVar 0) fNil)))) (fSeq (fIf (fOrT (fNotT (fTru (fCall m__law_same (fCons (fCall m_paper_texts (fCons (fCB listD (fCons (fVar 1) fNil)) fNil)) (fCons (fVar 2) fNil))))) (fNotT (fTru (fCall m__law_same (fCons (fCall m_paper_texts (fCons (fSeqD .list fNil) fNil)) (fCons (fSeqD .list fNil) fNil)))))) (fRet (fC (.bool false))) fNext) (fSeq (fIf (fOrT (fNotT (fTru (fCall m__law_paper_right (fCons (fVar 2) fNil)))) (fNotT (fTru (fCall m__law_paper_right (fCons (fSeqD .list fNil) fNil))))) (fRet (fC (.bool false))) fNext) (fSeq (fSetLC 3 (fVar 2)) (fSeq (fFor 4 (fRng1 (fC (.int 6))) (fSeq (fSet 5 (fBin addD (fC (.int 200)) (fBin mulD (fC (.int 10)) (fVar 4)))) (fSeq (fSet 6 (fCall m__law_draw (fCons (fVar 0) (fCons (fVar 5) (fCons (fCB lenD (fCons (fVar 2) fNil)) fNil))))) (fSeq (fIf (fNotT (fTru (fCall m__law_same (fCons (fCall m_line_text (fCons (fBin ixD (fVar 1) (fVar 6)) fNil)) (fCons (fBin ixD (fVar 2) (fVar 6)) fNil))))) (fRet (fC (.bool false))) fNext) (fSeq (fSet 7 (fCall m__law_bent (fCons (fVar 0) (fCons (fBin addD (fVar 5) (fC (.int 1))) (fCons (fBin ixD (fVar 2) (fVar 6)) fNil))))) (fSeq (fIf (fTst (fBin eqD (fCall m__law_draw (fCons (fVar 0) (fCons (fBin addD (fVar 5) (fC (.int 4))) (fCons (fC (.int 3)) fNil)))) (fC (.int 0)))) (fSet 7 (fCall m__law_bent (fCons (fVar 0) (fCons (fBin addD (fVar 5) (fC (.int 5))) (fCons (fVar 7) fNil))))) fNext) (fSeq (fPutL 3 (fVar 6) (fVar 7)) (fIf (fOrT (fNotT (fTru (fCall m__law_same (fCons (fCall m_line_by (fCons (fVar 7) fNil)) (fCons (fCall m__law_read (fCons (fVar 7) fNil)) fNil))))) (fNotT (fTru (fCallF m__law_paper_right (fCons (fVar 3) fNil))))) (fRet (fC (.bool false))) fNext)))))))) (fRet (fC (.bool true)))))))))
end G
namespace K1
open PySem
structure Sh (d : PyData) (k n : Nat) : Prop where
  sh : d.showable = true
  lv : d.leavesShort 200 = true
  dp : d.depth ≤ k
  wt : d.weight ≤ n
theorem Sh.mono {d : PyData} {k n k' n' : Nat} (h : Sh d k n) (hk : k ≤ k') (hn : n ≤ n') : Sh d k' n' := ⟨h.sh, h.lv, Nat.le_trans h.dp hk, Nat.le_trans h.wt hn⟩
theorem Sh.none : Sh .none 0 0 := ⟨rfl, rfl, Nat.le_refl _, Nat.le_refl _⟩
theorem Sh.bool (b : Bool) : Sh (.bool b) 0 0 := ⟨rfl, rfl, Nat.le_refl _, Nat.le_refl _⟩
theorem Sh.int {i : Int} (h : i.natAbs < 10 ^ 40) : Sh (.int i) 0 200 := by
  have l : i.natAbs.log2 < 150 := by
    by_cases h0 : i.natAbs = 0
    · rw [h0]; decide
    · exact (Nat.log2_lt h0).mpr (Nat.lt_trans h (by decide))
  refine ⟨?_, ?_, Nat.le_refl _, ?_⟩
  · show decide (i.natAbs.log2 < 1920) = true
    exact decide_eq_true (by omega)
  · show decide ((PyData.shown (.int i)).length ≤ 200) = true
    refine decide_eq_true ?_
    have e := int_text_length_le10 (k := 40) (by decide) h
    show (Str.ofString (toString i)).length ≤ 200
    rw [ofString_length]
    omega
  · show (if i == 0 then 0 else i.natAbs.log2 + 1) ≤ 200
    split <;> omega
theorem Sh.str {x : Str} {n : Nat} (h : ∀ c ∈ x.cps.toList, c < 128) (hn : x.length ≤ n) : Sh (.str x) 0 n := by
  refine ⟨rfl, ?_, Nat.le_refl _, hn⟩
  show (x.cps.toList.all fun c => decide (c < 16 ^ 8)) = true
  exact List.all_eq_true.mpr fun c hc => decide_eq_true (Nat.lt_trans (h c hc) (by decide))
structure Shs (ds : List PyData) (k n : Nat) : Prop where
  sh : PyData.showableAll ds = true
  lv : PyData.leavesShortAll 200 ds = true
  dp : PyData.depthAll ds ≤ k
  wt : PyData.weightAll ds ≤ n
theorem Shs.nil (k n : Nat) : Shs [] k n := ⟨rfl, rfl, Nat.zero_le _, Nat.zero_le _⟩
theorem Shs.cons {d : PyData} {ds : List PyData} {k n m : Nat} (h : Sh d k n) (t : Shs ds k m) : Shs (d :: ds) k (n + 1 + m) := by
  refine ⟨?_, ?_, ?_, ?_⟩
  · show (d.showable && PyData.showableAll ds) = true
    rw [h.sh, t.sh]; rfl
  · show (d.leavesShort 200 && PyData.leavesShortAll 200 ds) = true
    rw [h.lv, t.lv]; rfl
  · show max d.depth (PyData.depthAll ds) ≤ k
    exact Nat.max_le.mpr ⟨h.dp, t.dp⟩
  · show d.weight + 1 + PyData.weightAll ds ≤ n + 1 + m
    have := h.wt
    have := t.wt
    omega
theorem Shs.mono {ds : List PyData} {k n k' n' : Nat} (h : Shs ds k n) (hk : k ≤ k') (hn : n ≤ n') : Shs ds k' n' := ⟨h.sh, h.lv, Nat.le_trans h.dp hk, Nat.le_trans h.wt hn⟩
theorem Shs.append {ds es : List PyData} {k n m : Nat} (h : Shs ds k n) (t : Shs es k m) : Shs (ds ++ es) k (n + m) := by
  induction ds generalizing n with
  | nil => exact t.mono (Nat.le_refl _) (Nat.le_add_left _ _)
  | cons d r ih =>
    have hs : (d.showable && PyData.showableAll r) = true := h.sh
    have hl : (d.leavesShort 200 && PyData.leavesShortAll 200 r) = true := h.lv
    rw [Bool.and_eq_true] at hs hl
    have hd : max d.depth (PyData.depthAll r) ≤ k := h.dp
    have hw : d.weight + 1 + PyData.weightAll r ≤ n := h.wt
    have q := ih (n := PyData.weightAll r) ⟨hs.2, hl.2, Nat.le_trans (Nat.le_max_right _ _) hd, Nat.le_refl _⟩
    have z := Shs.cons (d := d) (n := d.weight) ⟨hs.1, hl.1, Nat.le_trans (Nat.le_max_left _ _) hd, Nat.le_refl _⟩ q
    exact z.mono (Nat.le_refl _) (by omega)
theorem Shs.of : ∀ {ds : List PyData} {k : Nat} {f : PyData → Nat}, (∀ d ∈ ds, Sh d k (f d)) → Shs ds k ((ds.map fun d => f d + 1).sum)
  | [], k, f, _ => Shs.nil _ _
  | d :: r, k, f, h => by
    have q := Shs.of (ds := r) (f := f) fun x hx => h x (List.mem_cons_of_mem _ hx)
    have z := Shs.cons (h d List.mem_cons_self) q
    simpa using z
theorem Sh.tuple {ds : List PyData} {k n : Nat} (h : Shs ds k n) : Sh (.tuple ds) (k + 1) n := ⟨h.sh, h.lv, Nat.succ_le_succ h.dp, h.wt⟩
theorem Sh.list {ds : List PyData} {k n : Nat} (h : Shs ds k n) : Sh (.list ds) (k + 1) n := ⟨h.sh, h.lv, Nat.succ_le_succ h.dp, h.wt⟩
end K1
namespace K1
open PySem
noncomputable def Good (d : PyData) : Prop := Sh d 60 60000
theorem Good.str {x : Str} (h : Good (.str x)) : x.cps.size ≤ 60000 := h.wt
theorem weight_mem : ∀ {ds : List PyData} {d : PyData}, d ∈ ds → d.weight + 1 ≤ PyData.weightAll ds ∧ d.depth ≤ PyData.depthAll ds ∧ (PyData.showableAll ds = true → d.showable = true) ∧ (PyData.leavesShortAll 200 ds = true → d.leavesShort 200 = true)
  | e :: r, d, h => by
    have e1 : PyData.weightAll (e :: r) = e.weight + 1 + PyData.weightAll r := rfl
    have e2 : PyData.depthAll (e :: r) = max e.depth (PyData.depthAll r) := rfl
    have e3 : PyData.showableAll (e :: r) = (e.showable && PyData.showableAll r) := rfl
    have e4 : PyData.leavesShortAll 200 (e :: r) = (e.leavesShort 200 && PyData.leavesShortAll 200 r) := rfl
    rw [e1, e2, e3, e4, Bool.and_eq_true, Bool.and_eq_true]
    rcases List.mem_cons.mp h with z | z
    · subst z
      exact ⟨by omega, Nat.le_max_left _ _, fun q => q.1, fun q => q.1⟩
    · obtain ⟨q1, q2, q3, q4⟩ := weight_mem z
      exact ⟨by omega, Nat.le_trans q2 (Nat.le_max_right _ _), fun q => q3 q.2, fun q => q4 q.2⟩
theorem weight_len : ∀ ds : List PyData, ds.length ≤ PyData.weightAll ds
  | [] => Nat.zero_le _
  | e :: r => by
    have := weight_len r
    have e1 : PyData.weightAll (e :: r) = e.weight + 1 + PyData.weightAll r := rfl
    rw [e1, List.length_cons]
    omega
theorem Good.part {ds : List PyData} {d : PyData} (h : Good (.tuple ds)) (hd : d ∈ ds) : Good d := by
  obtain ⟨q1, q2, q3, q4⟩ := weight_mem hd
  have w := h.wt
  have p := h.dp
  have e1 : (PyData.tuple ds).weight = PyData.weightAll ds := rfl
  have e2 : (PyData.tuple ds).depth = PyData.depthAll ds + 1 := rfl
  rw [e1] at w
  rw [e2] at p
  exact ⟨q3 h.sh, q4 h.lv, by omega, by omega⟩
theorem Good.len {ds : List PyData} (h : Good (.tuple ds)) : ds.length ≤ 60000 := Nat.le_trans (weight_len ds) h.wt
end K1
namespace G
open PySem PySem.Spec PyProof.Rows L2 D
theorem atI_in {α : Type} {xs : List α} {i : Int} (h0 : 0 ≤ i) (h1 : i < xs.length) : ∃ x, atI xs i = some x ∧ x ∈ xs := by
  obtain ⟨n, rfl⟩ := Int.eq_ofNat_of_zero_le h0
  have hn : n < xs.length := by omega
  exact ⟨xs[n], atI_nat (List.getElem?_eq_getElem hn), List.getElem_mem hn⟩
noncomputable def drwR : FS := fSeq (fSet 5 (fBin modD (fBin mulD (fBin addD (fBin addD (fBin addD (fBin modD (fVar 3) (fC (.int 999999937))) (fBin mulD (fBin mulD (fC (.int 31)) (fVar 1)) (fVar 1))) (fBin mulD (fC (.int 7)) (fVar 1))) (fC (.int 1))) (fC (.int 48271))) (fC (.int 2147483647)))) (fRet (fBin modD (fBin fdivD (fBin modD (fBin mulD (fBin fdivD (fVar 5) (fC (.int 7))) (fC (.int 69621))) (fC (.int 2147483629))) (fC (.int 5))) (fVar 2)))
theorem mod_in {many : Int} (hm : 0 < many) (z : Int) : 0 ≤ z % many ∧ z % many < many := ⟨Int.emod_nonneg _ (by omega), Int.emod_lt_of_pos _ hm⟩
theorem drw_rest {ns : List Int} {k many c : Int} {a : Option W} {T : Tp} (hk : 0 ≤ k) (hk' : k ≤ 100000) (hm : 0 < many) (ha : a = none ∨ ∃ i, a = some (.d (.int i))) :
    ∃ r, fnEnd (drwR [some (.d (script ns)), some (.d (.int k)), some (.d (.int many)), some (.d (.int c)), a, none] T) = some (.int r, T) ∧ 0 ≤ r ∧ r < many := by
  refine ⟨_, ?_, mod_in hm ((c % 999999937 + 31 * k * k + 7 * k + 1) * 48271 % 2147483647 / 7 * 69621 % 2147483629 / 5)⟩
  rcases ha with rfl | ⟨i, rfl⟩
  · simp [drwR, hm]
    omega
  · simp [drwR, hm]
    omega
theorem L_draw (ns : List Int) (k many : Int) (T : Tp) (hk : 0 ≤ k := by omega) (hk' : k ≤ 100000 := by omega) (hm : 0 < many := by omega) (hl : ns.length ≤ 63 := by omega) : ∃ r, m__law_draw [.d (script ns), .d (.int k), .d (.int many)] T = some (.int r, T) ∧ 0 ≤ r ∧ r < many := by
  by_cases h0 : ns.length = 0
  · obtain ⟨r, h, h'⟩ := drw_rest (ns := ns) (c := 0) (a := none) (T := T) hk hk' hm (.inl rfl)
    refine ⟨r, ?_, h'⟩
    rw [← h]
    unfold drwR
    simp [m__law_draw, script, h0]
  · obtain ⟨x, hx, _⟩ := atI_in (xs := ns) (i := k % (ns.length : Int)) (mod_in (by omega) k).1 (mod_in (by omega) k).2
    have hx' : atI (ns.map PyData.int) (k % (ns.length : Int)) = some (.int x) := by
      unfold atI at hx ⊢
      rw [List.length_map]
      cases e : ixN ns.length (k % (ns.length : Int)) with
      | none => rw [e] at hx; cases hx
      | some j =>
        rw [e] at hx
        show (ns.map PyData.int)[j]? = _
        rw [List.getElem?_map, show ns[j]? = some x from hx]
        rfl
    have hp : (0 : Int) < ns.length := by omega
    have hpn : 0 < ns.length := by omega
    have hd := Int.ediv_nonneg hk (Int.le_of_lt hp)
    have hp2 : (ns.length : Int) < 1073741824 := by omega
    have pw : (10 : Int) ^ 18 = 1000000000000000000 := by decide
    have hs : (0 : Int) ≤ 7 * (if k / (ns.length : Int) < 90 then k / (ns.length : Int) else 90) := by split <;> omega
    by_cases hc : 1000000000000000000 ≤ x ∧ 127 < x / 2 ^ (7 * (if k / (ns.length : Int) < 90 then k / (ns.length : Int) else 90)).toNat
    · refine ⟨_, ?_, mod_in hm (x / 2 ^ (7 * (if k / (ns.length : Int) < 90 then k / (ns.length : Int) else 90)).toNat)⟩
      simp [m__law_draw, script, hp, hpn, hx', hp2, hs, hc.1, hc.2, hm, pw]
    · obtain ⟨r, h, h'⟩ := drw_rest (ns := ns) (c := x) (a := some (.d (.int (x / 2 ^ (7 * (if k / (ns.length : Int) < 90 then k / (ns.length : Int) else 90)).toNat)))) (T := T) hk hk' hm (.inr ⟨_, rfl⟩)
      refine ⟨r, ?_, h'⟩
      rw [← h]
      by_cases h1 : 1000000000000000000 ≤ x
      · have h2 : ¬ 127 < x / 2 ^ (7 * (if k / (ns.length : Int) < 90 then k / (ns.length : Int) else 90)).toNat := fun z => hc ⟨h1, z⟩
        unfold drwR
        simp [m__law_draw, script, hp, hpn, hx', hp2, hs, h1, h2, pw]
      · unfold drwR
        simp [m__law_draw, script, hp, hpn, hx', hp2, hs, h1, pw]
end G
namespace D
open PySem PySem.Spec PyProof.Rows L2
noncomputable def cd (x : Str) : List Nat := x.cps.toList
theorem cd_inj {x y : Str} (h : cd x = cd y) : x = y := by
  obtain ⟨x⟩ := x
  obtain ⟨y⟩ := y
  have h' : x.toList = y.toList := h
  exact congrArg Str.mk (Array.toList_inj.mp h')
theorem cd_len (x : Str) : (cd x).length = x.length := Array.length_toList
theorem cd_app (x y : Str) : cd (x ++ y) = cd x ++ cd y := cps_toList_append x y
noncomputable def commas (c : List Nat) : List (List Nat) → List Nat
  | [] => []
  | [x] => x
  | x :: y :: r => x ++ c ++ commas c (y :: r)
theorem join_cd (z : Str) : ∀ ys : List Str, cd (Str.join z ys) = commas (cd z) (ys.map cd)
  | [] => rfl
  | [x] => by
    show cd (Str.join z [x]) = cd x
    simp [Str.join]
  | x :: y :: r => by
    have ih := join_cd z (y :: r)
    show cd ((x ++ z) ++ Str.join z (y :: r)) = _
    rw [cd_app, cd_app, ih]
    rfl
theorem commas_cons (c x : List Nat) (r : List (List Nat)) : commas c (x :: r) = x ++ (r.map (c ++ ·)).flatten := by
  induction r generalizing x with
  | nil => simp [commas]
  | cons y r ih =>
    show x ++ c ++ commas c (y :: r) = _
    rw [ih y]
    simp
end D
namespace G
open PySem PySem.Spec PyProof.Rows L2 D
theorem com_cons (x : List Nat) (r : List (List Nat)) : commas [32] (x :: r) = x ++ (r.map ([32] ++ ·)).flatten := commas_cons [32] x r
theorem app_inj {a b u v : List Nat} (ha : 32 ∉ a) (hb : 32 ∉ b) (hu : u = [] ∨ u.head? = some 32) (hv : v = [] ∨ v.head? = some 32) (h : a ++ u = b ++ v) : a = b ∧ u = v := by
  induction a generalizing b with
  | nil =>
    cases b with
    | nil => exact ⟨rfl, h⟩
    | cons c b =>
      exfalso
      rw [List.nil_append] at h
      rcases hu with hu | hu
      · rw [hu] at h; cases h
      · rw [h] at hu
        have : c = 32 := by simpa using hu
        exact hb (by simp [this])
  | cons x a ih =>
    cases b with
    | nil =>
      exfalso
      rw [List.nil_append] at h
      rcases hv with hv | hv
      · rw [hv] at h; cases h
      · rw [← h] at hv
        have : x = 32 := by simpa using hv
        exact ha (by simp [this])
    | cons c b =>
      rw [List.cons_append, List.cons_append] at h
      injection h with h1 h2
      obtain ⟨k1, k2⟩ := ih (b := b) (fun z => ha (List.mem_cons_of_mem _ z)) (fun z => hb (List.mem_cons_of_mem _ z)) h2
      exact ⟨by rw [h1, k1], k2⟩
theorem fl_head (r : List (List Nat)) : (r.map ([32] ++ ·)).flatten = [] ∨ ((r.map ([32] ++ ·)).flatten).head? = some 32 := by
  cases r with
  | nil => exact .inl rfl
  | cons a r => exact .inr rfl
theorem com_inj : ∀ (A B : List (List Nat)), A ≠ [] → B ≠ [] → (∀ a ∈ A, 32 ∉ a) → (∀ b ∈ B, 32 ∉ b) → commas [32] A = commas [32] B → A = B
  | [], _, h, _, _, _, _ => absurd rfl h
  | _ :: _, [], _, h, _, _, _ => absurd rfl h
  | a :: A, b :: B, _, _, hA, hB, h => by
    rw [com_cons, com_cons] at h
    obtain ⟨h1, h2⟩ := app_inj (hA a List.mem_cons_self) (hB b List.mem_cons_self) (fl_head A) (fl_head B) h
    rw [h1]
    congr 1
    cases A with
    | nil =>
      cases B with
      | nil => rfl
      | cons b' B => cases h2
    | cons a' A =>
      cases B with
      | nil => cases h2
      | cons b' B =>
        have h3 : a' ++ (A.map ([32] ++ ·)).flatten = b' ++ (B.map ([32] ++ ·)).flatten := by
          have e : ∀ (x : List Nat) (r : List (List Nat)), ((x :: r).map ([32] ++ ·)).flatten = 32 :: (x ++ (r.map ([32] ++ ·)).flatten) := fun x r => by simp
          rw [e, e] at h2
          injection h2
        refine com_inj (a' :: A) (b' :: B) (by simp) (by simp) (fun x hx => hA x (List.mem_cons_of_mem _ hx)) (fun x hx => hB x (List.mem_cons_of_mem _ hx)) ?_
        rw [com_cons, com_cons]
        exact h3
theorem split_ne (x y : Str) : Txt.split x y ≠ [] := by
  unfold Txt.split
  split
  · simp
  · split
    · simp
    · rw [StrLaws.partsBetween_eq]
      obtain ⟨p, r, e⟩ := StrLaws.partsFrom_ne x y.length 0 (Builtin.Str.occurrences x y 0 x.length (x.length + 1))
      rw [e]
      simp
noncomputable def BL : Str := Str.ofString " "
theorem BL_eq : BL = ⟨#[32]⟩ := by decide +kernel
theorem map_cd {A B : List Str} (h : A.map cd = B.map cd) : A = B := by
  induction A generalizing B with
  | nil => cases B with
    | nil => rfl
    | cons b B => cases h
  | cons a A ih => cases B with
    | nil => cases h
    | cons b B =>
      simp only [List.map_cons] at h
      injection h with h1 h2
      rw [cd_inj h1, ih h2]
theorem split_back {ws : List Str} (hne : ws ≠ []) (h : ∀ w ∈ ws, 32 ∉ cd w) : Txt.split (Str.join BL ws) BL = ws := by
  have j := StrLaws.join_split (Str.join BL ws) BL
  have f : ∀ p ∈ Txt.split (Str.join BL ws) BL, 32 ∉ cd p := by
    rw [BL_eq]
    exact StrLaws.split_free _ 32
  generalize hA : Txt.split (Str.join BL ws) BL = A at j f
  have hA' : A ≠ [] := by rw [← hA]; exact split_ne _ _
  have c : cd (Str.join BL A) = cd (Str.join BL ws) := by rw [j]
  have b : cd BL = [32] := by rw [BL_eq]; rfl
  rw [join_cd, join_cd, b] at c
  refine map_cd (com_inj _ _ (by simpa using hA') (by simpa using hne) (fun a ha => ?_) (fun a ha => ?_) c)
  · obtain ⟨p, hp, rfl⟩ := List.mem_map.mp ha
    exact f p hp
  · obtain ⟨p, hp, rfl⟩ := List.mem_map.mp ha
    exact h p hp
@[simp] theorem ofs_inj {a b : String} : Str.ofString a = Str.ofString b ↔ a = b := by
  constructor
  · intro h
    have h2 : (Str.ofString a).cps.toList = (Str.ofString b).cps.toList := by rw [h]
    rw [signs_ofString, signs_ofString] at h2
    have inj : Function.Injective Char.toNat := fun x y e => Char.ext (UInt32.toNat_inj.mp e)
    exact String.toList_inj.mp ((List.map_inj_right (fun x y e => inj e)).mp h2)
  · rintro rfl; rfl
noncomputable def NM : List Str := [Str.ofString "a", Str.ofString "ab", Str.ofString "abcdefgh", Str.ofString "made", Str.ofString "wants", Str.ofString "fails", Str.ofString "told", Str.ofString "b"]
noncomputable def SM : List Str := [Str.ofString "0", Str.ofString "-3", Str.ofString "'", Str.ofString "'a-1", Str.ofString "()", Str.ofString "(1,'b)", Str.ofString "1000000000000000000", Str.ofString "((),(0))", Str.ofString "'made"]
noncomputable def OM : List Str := [Str.ofString ":", Str.ofString "", Str.ofString "A", Str.ofString "abcdefghi", Str.ofString "01", Str.ofString "-0", Str.ofString "'A", Str.ofString "(1,)", Str.ofString "(", Str.ofString "1)", Str.ofString "x1", Str.ofString "::", Str.ofString "1000000000000000001"]
noncomputable def MM : List Str := NM ++ SM ++ OM
noncomputable def tr (o : Option (PyData × Tp)) : Bool := match o with
  | some (.bool b, []) => b
  | _ => false
noncomputable def okB (o : Option (PyData × Tp)) : Bool := match o with
  | some (.bool _, []) => true
  | _ => false
theorem tr_of {o : Option (PyData × Tp)} (h : okB o = true) : o = some (.bool (tr o), []) := by
  unfold okB at h
  split at h
  · rfl
  · cases h
noncomputable def nmB (w : Str) : Bool := tr (m_is_name [.d (.str w)] [])
noncomputable def stB (w : Str) : Bool := SM.any fun y => y == w
theorem nm_all : (MM.all fun w => okB (m_is_name [.d (.str w)] []) && okB (m__law_is_name [.d (.str w)] []) && (tr (m__law_is_name [.d (.str w)] []) == nmB w)) = true := by decide +kernel
theorem st_all : (MM.all fun w => okB (m_is_stamp [.d (.str w)] []) && (tr (m_is_stamp [.d (.str w)] []) == stB w)) = true := by decide +kernel
theorem ln_all : (MM.all fun w => decide (w.length ≤ 19) && w.cps.toList.all fun c => decide (c < 128) && decide (c ≠ 32)) = true := by decide +kernel
section
variable {w : Str}
theorem L_nm (h : w ∈ MM) : m_is_name [.d (.str w)] [] = some (.bool (nmB w), []) := by
  have := List.all_eq_true.mp nm_all w h
  rw [Bool.and_eq_true, Bool.and_eq_true] at this
  exact tr_of this.1.1
theorem L_lnm (h : w ∈ MM) : m__law_is_name [.d (.str w)] [] = some (.bool (nmB w), []) := by
  have := List.all_eq_true.mp nm_all w h
  rw [Bool.and_eq_true, Bool.and_eq_true] at this
  have e := tr_of this.1.2
  rw [← eq_of_beq this.2]
  exact e
theorem L_st (h : w ∈ MM) : m_is_stamp [.d (.str w)] [] = some (.bool (stB w), []) := by
  have := List.all_eq_true.mp st_all w h
  rw [Bool.and_eq_true] at this
  have e := tr_of this.1
  rw [← eq_of_beq this.2]
  exact e
theorem mm_len (h : w ∈ MM) : w.length ≤ 19 := by
  have := List.all_eq_true.mp ln_all w h
  rw [Bool.and_eq_true] at this
  exact of_decide_eq_true this.1
theorem mm_lo (h : w ∈ MM) : ∀ c ∈ w.cps.toList, c < 128 := fun c hc => by
  have := List.all_eq_true.mp ln_all w h
  rw [Bool.and_eq_true] at this
  have := List.all_eq_true.mp this.2 c hc
  rw [Bool.and_eq_true] at this
  exact of_decide_eq_true this.1
theorem mm_no (h : w ∈ MM) : 32 ∉ cd w := fun hc => by
  have := List.all_eq_true.mp ln_all w h
  rw [Bool.and_eq_true] at this
  have := List.all_eq_true.mp this.2 32 hc
  rw [Bool.and_eq_true] at this
  exact of_decide_eq_true this.2 rfl
theorem nm_mm (h : w ∈ NM) : w ∈ MM := List.mem_append_left _ (List.mem_append_left _ h)
theorem sm_mm (h : w ∈ SM) : w ∈ MM := List.mem_append_left _ (List.mem_append_right _ h)
theorem om_mm (h : w ∈ OM) : w ∈ MM := List.mem_append_right _ h
end
theorem inD_strs (w : Str) (xs : List Str) : inD (.str w) (.list (xs.map .str)) = some (.bool (xs.any fun y => y == w)) := by
  have h : (xs.map PyData.str).all flatD = true := by simp [flatD]
  show (if flatD (.str w) && (xs.map PyData.str).all flatD then some ((xs.map PyData.str).any fun y => eqF y (.str w)) else none).map PyData.bool = _
  rw [h]
  simp [flatD, eqF, List.any_map]
  rfl
theorem L_stamps : m__law_stamps [] [] = some (.list (SM.map .str), []) := rfl
theorem L_nms : m__law_names [] [] = some (.list (NM.map .str), []) := rfl
structure Gd (d : PyData) (k n : Nat) : Prop where
  sh : K1.Sh d k n
  cl : d.canLay0 = true
theorem Gd.mono {d : PyData} {k n k' n' : Nat} (h : Gd d k n) (hk : k ≤ k') (hn : n ≤ n') : Gd d k' n' := ⟨h.sh.mono hk hn, h.cl⟩
theorem Gd.none : Gd .none 0 0 := ⟨.none, rfl⟩
theorem Gd.bool (b : Bool) : Gd (.bool b) 0 0 := ⟨.bool b, rfl⟩
theorem Gd.int {i : Int} (h : i.natAbs < 10 ^ 40) : Gd (.int i) 0 200 := ⟨.int h, rfl⟩
theorem Gd.str {x : Str} {n : Nat} (h : ∀ c ∈ x.cps.toList, c < 128) (hn : x.length ≤ n) : Gd (.str x) 0 n := ⟨.str h hn, by
  simp only [PyData.canLay0]
  unfold PyData.strOk
  rw [← Array.all_toList, List.all_eq_true]
  intro c hc
  have := h c hc
  exact decide_eq_true (by omega)⟩
theorem canLays {ds : List PyData} (h : ∀ d ∈ ds, d.canLay0 = true) : PyData.canLayAll0 ds = true := by
  induction ds with
  | nil => simp [PyData.canLayAll0]
  | cons d r ih =>
    simp only [PyData.canLayAll0]
    rw [h d List.mem_cons_self, ih fun x hx => h x (List.mem_cons_of_mem _ hx)]
    rfl
theorem sum_const (n : Nat) : ∀ ds : List PyData, (ds.map fun _ => n + 1).sum = ds.length * (n + 1)
  | [] => by simp
  | d :: r => by simp [sum_const n r, Nat.add_mul]; omega
theorem Gd.shs {ds : List PyData} {k n : Nat} (h : ∀ d ∈ ds, Gd d k n) : K1.Shs ds k (ds.length * (n + 1)) := by
  have := K1.Shs.of (f := fun _ => n) fun d hd => (h d hd).sh
  rw [sum_const] at this
  exact this
theorem Gd.tuple {ds : List PyData} {k n : Nat} (h : ∀ d ∈ ds, Gd d k n) : Gd (.tuple ds) (k + 1) (ds.length * (n + 1)) := ⟨.tuple (Gd.shs h), by
  simp only [PyData.canLay0]
  exact canLays fun d hd => (h d hd).cl⟩
theorem Gd.list {ds : List PyData} {k n : Nat} (h : ∀ d ∈ ds, Gd d k n) : Gd (.list ds) (k + 1) (ds.length * (n + 1)) := ⟨.list (Gd.shs h), by
  simp only [PyData.canLay0]
  exact canLays fun d hd => (h d hd).cl⟩
theorem Gd.good {d : PyData} {k n : Nat} (h : Gd d k n) (hk : k ≤ 60) (hn : n ≤ 60000) : goodB d = true := by
  have s := h.sh.mono hk hn
  unfold goodB
  rw [s.sh, s.lv, decide_eq_true s.dp, decide_eq_true s.wt, PyData.hasDict_of_canLay d h.cl]
  rfl
theorem Gd.shaped {d : PyData} {k n : Nat} (h : Gd d k n) (hk : k ≤ 60) : SeqAt.shaped d = true := by
  unfold SeqAt.shaped
  rw [h.cl, decide_eq_true (Nat.le_trans h.sh.dp (by omega))]
  rfl
theorem isiK_dct {d : PyData} (h : d.canLay0 = true) : isiK (kd d) .dct = false := by
  cases d with
  | dict _ => cases h
  | _ => rfl
@[simp] theorem ev_repr {f : FE} {ρ : Rho} {T : Tp} : fRepr f ρ T = bnd (f ρ T) fun w T1 => reprW T1 w := rfl
theorem ev_reprW {x : PyData} {T : Tp} (h : goodB x = true) : reprW T (.d x) = some (.d (.str x.shown), T) := if_pos h
theorem L_same {d : PyData} {k n : Nat} (h : Gd d k n) (hk : k ≤ 60) (hn : n ≤ 60000) : m__law_same [.d d, .d d] [] = some (.bool true, []) := by
  have g := h.good hk hn
  simp [m__law_same, isiK_dct h.cl, ev_reprW g]
end G
namespace G
open PySem PySem.Spec PyProof.Rows L2 D
theorem cut_to {α : Type} (xs : List α) {i : Int} (h0 : 0 ≤ i) (h1 : i ≤ (xs.length : Int)) : cutL xs none (some i) = xs.take i.toNat := by
  unfold cutL
  have e : i = (i.toNat : Int) := by omega
  rw [HT.sIx_none]
  rw [e, HT.sIx_nat]
  simp
  omega
theorem cut_from {α : Type} (xs : List α) {i : Int} (h0 : 0 ≤ i) (h1 : i ≤ (xs.length : Int)) : cutL xs (some i) none = xs.drop i.toNat := by
  unfold cutL
  have e : i = (i.toNat : Int) := by omega
  rw [HT.sIx_none]
  rw [e, HT.sIx_nat]
  have : min i.toNat xs.length = i.toNat := by omega
  rw [Int.toNat_natCast, this]
  exact List.take_of_length_le (by simp)
@[simp] theorem ev_strsM {l : List Str} : strsD (l.map .str) = some l := by
  have := strsD_map (fun x : Str => x) l
  simpa using this
noncomputable def jnK (z : Str) (o : Option (List Str)) : Option PyData := match o with
  | some ys => if (ys.map Str.length).sum + ys.length * z.length ≤ 16777216 then some (.str (Str.join z ys)) else none
  | none => none
@[simp] theorem ev_joinAL {z : Str} {xs : List PyData} : joinA (.str z) (.list xs) = jnK z (strsD xs) := rfl
noncomputable def txt (ws : List Str) : Str := Str.join (Str.ofString " ") ws
structure Wd (ws : List Str) (m : Nat) : Prop where
  ne : ws ≠ []
  mm : ∀ w ∈ ws, w ∈ MM
  ln : ws.length ≤ m
theorem bl_cd : cd (Str.ofString " ") = [32] := by
  have : Str.ofString " " = ⟨#[32]⟩ := BL_eq
  rw [this]; rfl
theorem sum_len {ws : List Str} (h : ∀ w ∈ ws, w ∈ MM) : (ws.map Str.length).sum ≤ 19 * ws.length := by
  induction ws with
  | nil => simp
  | cons a r ih =>
    have h1 := mm_len (h a List.mem_cons_self)
    have h2 := ih fun x hx => h x (List.mem_cons_of_mem _ hx)
    simp only [List.map_cons, List.sum_cons, List.length_cons]
    omega
theorem L_join {ws : List Str} {m : Nat} (h : ∀ w ∈ ws, w ∈ MM) (hl : ws.length ≤ 1000) : joinA (.str (Str.ofString " ")) (.list (ws.map .str)) = some (.str (txt ws)) := by
  have h1 := sum_len h
  have h2 : (Str.ofString " ").length = 1 := rfl
  rw [ev_joinAL, ev_strsM]
  show (if _ then _ else _) = _
  rw [if_pos (by rw [h2]; omega)]
  rfl
theorem flat_len : ∀ {ws : List Str}, (∀ w ∈ ws, w ∈ MM) → (((ws.map cd).map ([32] ++ ·)).flatten).length ≤ 20 * ws.length
  | [], _ => by simp
  | a :: r, h => by
    have h1 := mm_len (h a List.mem_cons_self)
    have h2 := flat_len (ws := r) fun x hx => h x (List.mem_cons_of_mem _ hx)
    have h3 : (cd a).length = a.length := cd_len a
    simp only [List.map_cons, List.flatten_cons, List.length_append, List.length_cons, List.length_nil]
    omega
theorem txt_len {ws : List Str} (h : ∀ w ∈ ws, w ∈ MM) : (txt ws).length ≤ 20 * ws.length := by
  rw [← cd_len]
  unfold txt
  rw [join_cd, bl_cd]
  cases ws with
  | nil => simp [commas]
  | cons a r =>
    have h1 := mm_len (h a List.mem_cons_self)
    have h2 := flat_len (ws := r) fun x hx => h x (List.mem_cons_of_mem _ hx)
    have h3 : (cd a).length = a.length := cd_len a
    rw [List.map_cons, com_cons, List.length_append, List.length_cons]
    omega
theorem txt_lo {ws : List Str} (h : ∀ w ∈ ws, w ∈ MM) : ∀ c ∈ (txt ws).cps.toList, c < 128 := by
  show ∀ c ∈ cd (txt ws), c < 128
  unfold txt
  rw [join_cd, bl_cd]
  cases ws with
  | nil => simp [commas]
  | cons a r =>
    rw [List.map_cons, com_cons]
    intro c hc
    rcases List.mem_append.mp hc with z | z
    · exact mm_lo (h a List.mem_cons_self) c z
    · obtain ⟨l, hl, hc⟩ := List.mem_flatten.mp z
      obtain ⟨l', hl', rfl⟩ := List.mem_map.mp hl
      obtain ⟨w, hw, rfl⟩ := List.mem_map.mp hl'
      rcases List.mem_append.mp hc with q | q
      · rw [List.mem_singleton.mp q]; decide
      · exact mm_lo (h w (List.mem_cons_of_mem _ hw)) c q
theorem split_txt {ws : List Str} {m : Nat} (h : Wd ws m) : Txt.split (txt ws) (Str.ofString " ") = ws := split_back h.ne fun w hw => mm_no (h.mm w hw)
theorem fit_txt {ws : List Str} {m : Nat} (h : Wd ws m) (hm : m ≤ 1000) : (txt ws).length + 2 ≤ sizeLine := by
  have h1 := txt_len h.mm
  have h2 := h.ln
  exact Nat.le_trans (by omega : _ ≤ 30000) (by decide)
theorem L_split {ws : List Str} {m : Nat} (h : Wd ws m) (hm : m ≤ 1000) : splitD (.str (txt ws)) (.str (Str.ofString " ")) = some (.list (ws.map .str)) := by
  show (if _ then _ else _) = _
  rw [if_pos ⟨rfl, fit_txt h hm⟩, split_txt h]
noncomputable def flat (ps : List (Str × Str)) : List Str := ps.flatMap fun p => [p.1, p.2]
noncomputable def wds (x : Str) (ps : List (Str × Str)) (c a b : Str) : List Str := x :: (flat ps ++ [c, a, b])
theorem flat_length (ps : List (Str × Str)) : (flat ps).length = 2 * ps.length := by
  induction ps with
  | nil => rfl
  | cons p r ih =>
    have : flat (p :: r) = p.1 :: p.2 :: flat r := rfl
    rw [this, List.length_cons, List.length_cons, ih, List.length_cons]
    omega
theorem wds_len {x : Str} {ps : List (Str × Str)} {c a b : Str} : (wds x ps c a b).length = 2 * ps.length + 4 := by
  simp [wds, flat_length]
theorem decomp3 : ∀ (n : Nat) (r : List Str), r.length = 2 * n + 3 → ∃ ps c a b, r = flat ps ++ [c, a, b] ∧ ps.length = n
  | 0, [c, a, b], _ => ⟨[], c, a, b, rfl, rfl⟩
  | n + 1, x :: y :: r, h => by
    obtain ⟨ps, c, a, b, e, l⟩ := decomp3 n r (by simp at h; omega)
    exact ⟨(x, y) :: ps, c, a, b, by rw [e]; rfl, by simp [l]⟩
theorem decomp {ws : List Str} (h4 : 4 ≤ ws.length) (he : ws.length % 2 = 0) : ∃ x ps c a b, ws = wds x ps c a b := by
  cases ws with
  | nil => simp at h4
  | cons x r =>
    obtain ⟨ps, c, a, b, e, _⟩ := decomp3 ((r.length - 3) / 2) r (by simp at h4 he; omega)
    exact ⟨x, ps, c, a, b, by rw [e]; rfl⟩
theorem atI_nat {α : Type} {xs : List α} {i : Nat} (h : i < xs.length) : atI xs (i : Int) = xs[i]? := by
  unfold atI ixN
  have h0 : ¬ ((i : Int) < 0) := by omega
  have h1 : ((i : Int) < (xs.length : Int)) := by omega
  simp [h1]
theorem atI_back {α : Type} {xs : List α} {j : Nat} (h0 : 1 ≤ j) (h : j ≤ xs.length) : atI xs (-(j : Int)) = xs[xs.length - j]? := by
  unfold atI ixN
  have h1 : (-(j : Int)) < 0 := by omega
  have h2 : ¬ ((0 : Int) ≤ -(j : Int)) := by omega
  have e : (-(j : Int) + (xs.length : Int)).toNat = xs.length - j := by omega
  have h3 : -(xs.length : Int) ≤ -(j : Int) := by omega
  rw [if_neg h2, if_pos h3, e]
  rfl
theorem flat_at : ∀ (ps : List (Str × Str)) (s : List Str) (i : Nat) (h : i < ps.length), (flat ps ++ s)[2 * i]? = some ps[i].1 ∧ (flat ps ++ s)[2 * i + 1]? = some ps[i].2
  | p :: r, s, 0, _ => ⟨rfl, rfl⟩
  | p :: r, s, i + 1, h => by
    have e : flat (p :: r) ++ s = p.1 :: p.2 :: (flat r ++ s) := rfl
    obtain ⟨h1, h2⟩ := flat_at r s i (by simpa using h)
    have e1 : 2 * (i + 1) = 2 * i + 1 + 1 := by omega
    rw [e, e1]
    exact ⟨by simpa using h1, by simpa using h2⟩
noncomputable def prT (p : Str × Str) : PyData := .tuple [.str p.1, .str p.2]
noncomputable def lineT (x : Str) (ps : List (Str × Str)) (a b : Str) : PyData := .tuple [.str x, .tuple (ps.map prT), .tuple [.str a, .str b]]
section
variable {x : Str} {ps : List (Str × Str)} {c a b : Str}
theorem at_x : atI ((wds x ps c a b).map PyData.str) 0 = some (.str x) := atI_nat (i := 0) (by simp [wds])
theorem wds_end (k : Nat) (h : k < 3) : ((wds x ps c a b).map PyData.str)[(wds x ps c a b).length - 3 + k]? = ([PyData.str c, .str a, .str b])[k]? := by
  have e : (wds x ps c a b).length - 3 = (x :: flat ps).length := by
    simp [wds]
  have e2 : (wds x ps c a b).map PyData.str = (x :: flat ps).map PyData.str ++ [.str c, .str a, .str b] := by simp [wds]
  rw [e, e2, List.getElem?_append_right (by simp)]
  simp
theorem at_c : atI ((wds x ps c a b).map PyData.str) (-3) = some (.str c) := by
  have l : (wds x ps c a b).length = 2 * ps.length + 4 := wds_len
  have := atI_back (xs := (wds x ps c a b).map PyData.str) (j := 3) (by omega) (by simp; omega)
  rw [show (-3 : Int) = -((3 : Nat) : Int) by rfl, this, List.length_map]
  exact wds_end 0 (by omega)
theorem at_a : atI ((wds x ps c a b).map PyData.str) (-2) = some (.str a) := by
  have l : (wds x ps c a b).length = 2 * ps.length + 4 := wds_len
  have := atI_back (xs := (wds x ps c a b).map PyData.str) (j := 2) (by omega) (by simp; omega)
  rw [show (-2 : Int) = -((2 : Nat) : Int) by rfl, this, List.length_map]
  have e := wds_end (x := x) (ps := ps) (c := c) (a := a) (b := b) 1 (by omega)
  rw [show (wds x ps c a b).length - 2 = (wds x ps c a b).length - 3 + 1 by omega]
  exact e
theorem at_b : atI ((wds x ps c a b).map PyData.str) (-1) = some (.str b) := by
  have l : (wds x ps c a b).length = 2 * ps.length + 4 := wds_len
  have := atI_back (xs := (wds x ps c a b).map PyData.str) (j := 1) (by omega) (by simp; omega)
  rw [show (-1 : Int) = -((1 : Nat) : Int) by rfl, this, List.length_map]
  have e := wds_end (x := x) (ps := ps) (c := c) (a := a) (b := b) 2 (by omega)
  rw [show (wds x ps c a b).length - 1 = (wds x ps c a b).length - 3 + 2 by omega]
  exact e
theorem cut_ab : cutL ((wds x ps c a b).map PyData.str) (some (-2)) none = [.str a, .str b] := by
  have e2 : (wds x ps c a b).map PyData.str = (x :: (flat ps ++ [c])).map PyData.str ++ [.str a, .str b] := by simp [wds]
  rw [e2]
  generalize (x :: (flat ps ++ [c])).map PyData.str = l
  unfold cutL
  have h1 : HT.sIx (l ++ [PyData.str a, .str b]).length 0 (some (-2)) = l.length := by
    unfold HT.sIx
    simp
    omega
  rw [h1, HT.sIx_none]
  simp
theorem L_pairs {ρ : Rho} (hρ : fVar 1 ρ [] = some (.d (.list ((wds x ps c a b).map .str)), [])) : compL fTrue (fSeqD .tuple (fCons (fBin ixD (fVar 2) (fVar 0)) (fCons (fBin ixD (fVar 2) (fBin addD (fVar 0) (fC (.int 1)))) fNil))) ρ (nums2 1 ps.length) [] = some (ps.map prT, []) := by
  have key := compL_map (e := fSeqD .tuple (fCons (fBin ixD (fVar 2) (fVar 0)) (fCons (fBin ixD (fVar 2) (fBin addD (fVar 0) (fC (.int 1)))) fNil))) (ρ := ρ) (T := []) (g := fun d => match d with
    | .int k => prT ((ps[((k - 1) / 2).toNat]?).getD (x, x))
    | _ => .none) (ds := nums2 1 ps.length) fun d hd => by
      unfold nums2 at hd
      obtain ⟨i, hi, rfl⟩ := List.mem_map.mp hd
      have hi' := List.mem_range.mp hi
      obtain ⟨f1, f2⟩ := flat_at ps [c, a, b] i hi'
      have e1 : atI ((wds x ps c a b).map PyData.str) (1 + (i : Int) * 2) = some (.str ps[i].1) := by
        have := atI_nat (xs := (wds x ps c a b).map PyData.str) (i := 2 * i + 1) (by rw [List.length_map, wds_len]; omega)
        rw [show (1 + (i : Int) * 2) = ((2 * i + 1 : Nat) : Int) by omega, this, List.getElem?_map]
        have : (wds x ps c a b)[2 * i + 1]? = some ps[i].1 := by
          show (x :: (flat ps ++ [c, a, b]))[2 * i + 1]? = _
          simpa using f1
        rw [this]; rfl
      have e2 : atI ((wds x ps c a b).map PyData.str) (1 + (i : Int) * 2 + 1) = some (.str ps[i].2) := by
        have := atI_nat (xs := (wds x ps c a b).map PyData.str) (i := 2 * i + 2) (by rw [List.length_map, wds_len]; omega)
        rw [show (1 + (i : Int) * 2 + 1) = ((2 * i + 2 : Nat) : Int) by omega, this, List.getElem?_map]
        have : (wds x ps c a b)[2 * i + 2]? = some ps[i].2 := by
          show (x :: (flat ps ++ [c, a, b]))[2 * i + 1 + 1]? = _
          simpa using f2
        rw [this]; rfl
      have e3 : ((1 + (i : Int) * 2 - 1) / 2).toNat = i := by omega
      simp [hρ, e1, e2, e3, hi', prT]
  rw [key]
  congr 2
  apply List.ext_getElem?
  intro i
  unfold nums2
  by_cases hi : i < ps.length
  · have e3 : ((1 + (i : Int) * 2 - 1) / 2).toNat = i := by omega
    simp [List.getElem?_range hi, hi, e3]
  · simp [hi]
end
end G
namespace G
open PySem PySem.Spec PyProof.Rows L2 D
theorem compL_mapA {α : Type} {e : FE} {ρ : Rho} {T : Tp} {q : α → PyData} {g : α → PyData} : ∀ {ds : List α}, (∀ d ∈ ds, e (some (.d (q d)) :: ρ) T = some (.d (g d), T)) → compL fTrue e ρ (ds.map q) T = some (ds.map g, T)
  | [], _ => rfl
  | d :: r, h => by
    have h1 := h d List.mem_cons_self
    have ih := compL_mapA (ds := r) fun x hx => h x (List.mem_cons_of_mem _ hx)
    simp only [List.map_cons]
    show bnd (fTrue _ T) _ = _
    simp only [fTrue, bnd_mk, if_true, h1, ih]
theorem compL2_map {e : FE} {ρ : Rho} {T : Tp} {g : Str × Str → PyData} : ∀ {ps : List (Str × Str)}, (∀ p ∈ ps, e (some (.d (.str p.1)) :: some (.d (.str p.2)) :: ρ) T = some (.d (g p), T)) → compL2 fTrue e ρ (ps.map prT) T = some (ps.map g, T)
  | [], _ => rfl
  | p :: r, h => by
    have h1 := h p List.mem_cons_self
    have ih := compL2_map (ps := r) fun x hx => h x (List.mem_cons_of_mem _ hx)
    simp only [List.map_cons]
    show bnd (fTrue _ T) _ = _
    simp only [fTrue, bnd_mk, if_true, h1, ih]
theorem all_bools {α : Type} (f : α → Bool) (l : List α) : allD [.list (l.map fun a => .bool (f a))] = some (.bool (l.all f)) := ev_all f l
@[simp] theorem at20 {α : Type} {a b : α} : atI [a, b] 0 = some a := rfl
@[simp] theorem at21 {α : Type} {a b : α} : atI [a, b] 1 = some b := rfl
@[simp] theorem at30 {α : Type} {a b c : α} : atI [a, b, c] 0 = some a := rfl
@[simp] theorem at31 {α : Type} {a b c : α} : atI [a, b, c] 1 = some b := rfl
@[simp] theorem at32 {α : Type} {a b c : α} : atI [a, b, c] 2 = some c := rfl
noncomputable def prB (p : Str × Str) : Bool := nmB p.1 && stB p.2
noncomputable def MP (ps : List (Str × Str)) : Prop := ∀ p ∈ ps, p.1 ∈ MM ∧ p.2 ∈ MM
section
variable {x : Str} {ps : List (Str × Str)} {c a b : Str} {p : Str × Str}
theorem L_isread (h1 : p.1 ∈ MM) (h2 : p.2 ∈ MM) : m_is_read [.d (prT p)] [] = some (.bool (prB p), []) := by
  have e1 := L_nm h1
  have e2 := L_st h2
  unfold prB
  cases hn : nmB p.1 with
  | false => rw [hn] at e1; simp [m_is_read, prT, isiK, e1]
  | true => rw [hn] at e1; simp [m_is_read, prT, isiK, e1, e2]
theorem L_reads (h : MP ps) : m_are_reads [.d (.tuple (ps.map prT))] [] = some (.bool (decide (ps.length ≤ 12) && ps.all prB), []) := by
  have cm := compL_mapA (e := fCall m_is_read (fCons (fVar 0) fNil)) (ρ := [some (.d (.tuple (ps.map prT)))]) (T := []) (q := prT) (g := fun p => .bool (prB p)) (ds := ps) fun p hp => by
    have := L_isread (h p hp).1 (h p hp).2
    simp [this]
  have al := all_bools prB ps
  by_cases hl : ps.length ≤ 12
  · have h1 : ¬ (12 < (ps.length : Int)) := by omega
    simp [m_are_reads, isiK, h1, hl, cm, al]
  · have h1 : (12 < (ps.length : Int)) := by omega
    simp [m_are_reads, isiK, h1, hl]
noncomputable def endB (a b : Str) : Bool := if a = Str.ofString "made" then stB b else (decide (a = Str.ofString "fails") || decide (a = Str.ofString "wants")) && nmB b
theorem in2 : inD (.str a) (.tuple [.str (Str.ofString "fails"), .str (Str.ofString "wants")]) = some (.bool (decide (a = Str.ofString "fails") || decide (a = Str.ofString "wants"))) := by
  have q : ∀ y : Str, (y == a) = decide (a = y) := fun y => by rw [Bool.eq_iff_iff]; simp; exact eq_comm
  simp [inD, inS, flatD, eqF, q]
theorem L_isend (h2 : b ∈ MM) : m_is_end [.d (.tuple [.str a, .str b])] [] = some (.bool (endB a b), []) := by
  have e1 := L_nm h2
  have e2 := L_st h2
  have e3 := in2 (a := a)
  unfold endB
  by_cases ha : a = Str.ofString "made"
  · subst ha
    simp [m_is_end, isiK, e2]
  · rw [if_neg ha]
    cases hf : (decide (a = Str.ofString "fails") || decide (a = Str.ofString "wants")) with
    | false => rw [hf] at e3; simp [m_is_end, isiK, ha, e3]
    | true => rw [hf] at e3; simp [m_is_end, isiK, ha, e3, e1]
theorem L_isline (h0 : x ∈ MM) (h : MP ps) (h2 : b ∈ MM) : m_is_line [.d (lineT x ps a b)] [] = some (.bool (nmB x && ((decide (ps.length ≤ 12) && ps.all prB) && endB a b)), []) := by
  have e1 := L_nm h0
  have e2 := L_reads h
  have e3 := L_isend (a := a) h2
  cases hn : nmB x with
  | false => rw [hn] at e1; simp [m_is_line, lineT, isiK, e1]
  | true =>
    rw [hn] at e1
    cases hr : (decide (ps.length ≤ 12) && ps.all prB) with
    | false => rw [hr] at e2; simp [m_is_line, lineT, isiK, e1, e2]
    | true => rw [hr] at e2; simp [m_is_line, lineT, isiK, e1, e2, e3]
end
end G
namespace G
open PySem PySem.Spec PyProof.Rows L2 D
theorem L_rng {n : Nat} {T : Tp} (h : n ≤ 1000) : rng3K (.d (.int 1)) (.d (.int (2 * (n : Int) + 4 - 3))) (.d (.int 2)) T = some (nums2 1 n, T) := by
  show (if _ then _ else _) = _
  rw [if_pos (by omega)]
  have : many2 1 (2 * (n : Int) + 4 - 3) = n := by unfold many2; omega
  rw [this]
@[simp] theorem ev_rng3 {f g h : FE} {ρ : Rho} {T : Tp} : fRng3 f g h ρ T = bnd (f ρ T) fun w1 T1 => bnd (g ρ T1) fun w2 T2 => bnd (h ρ T2) fun w3 T3 => rng3K w1 w2 w3 T3 := rfl
@[simp] theorem ev_comp2 {it : FI} {c : FT} {e : FE} {ρ : Rho} {T : Tp} : fComp2 it c e ρ T = bnd (it ρ T) fun ds T1 => bnd (compL2 c e ρ ds T1) fun ys T2 => some (.d (.list ys), T2) := rfl
@[simp] theorem ev_unpL {i j : Nat} {f : FE} {ρ : Rho} {T : Tp} : fUnpL i j f ρ T = bnd (f ρ T) (unpLK i j ρ) := rfl
@[simp] theorem ev_unpLK {i j : Nat} {ρ : Rho} {T : Tp} {x y : PyData} : unpLK i j ρ (.d (.list [x, y])) T = some ((.nx, (ρ.set i (some (.d x))).set j (some (.d y))), T) := rfl
noncomputable def lnB (x : Str) (ps : List (Str × Str)) (a b : Str) : Bool := nmB x && ((decide (ps.length ≤ 12) && ps.all prB) && endB a b)
section
variable {x : Str} {ps : List (Str × Str)} {c a b : Str}
theorem wds_mm (h : ∀ w ∈ wds x ps c a b, w ∈ MM) : x ∈ MM ∧ MP ps ∧ a ∈ MM ∧ b ∈ MM := by
  refine ⟨h x (by simp [wds]), fun p hp => ⟨h _ ?_, h _ ?_⟩, h a (by simp [wds]), h b (by simp [wds])⟩
  · simp only [wds, flat, List.mem_cons, List.mem_append, List.mem_flatMap]
    exact .inr (.inl ⟨p, hp, by simp⟩)
  · simp only [wds, flat, List.mem_cons, List.mem_append, List.mem_flatMap]
    exact .inr (.inl ⟨p, hp, by simp⟩)
theorem by_wds {m : Nat} (h : Wd (wds x ps c a b) m) (hm : m ≤ 1000) : m_line_by [.d (.str (txt (wds x ps c a b)))] [] = some (if c = Str.ofString ":" ∧ lnB x ps a b = true then lineT x ps a b else .none, []) := by
  obtain ⟨h0, h1, h2, h3⟩ := wds_mm h.mm
  have hl : ps.length ≤ 1000 := by have := h.ln; rw [wds_len] at this; omega
  have sp := L_split h hm
  have n4 : ¬ (2 * (ps.length : Int) + 4 < 4) := by omega
  have md : (2 * (ps.length : Int) + 4) % 2 = 0 := by omega
  have ac := at_c (x := x) (ps := ps) (c := c) (a := a) (b := b)
  have ax := at_x (x := x) (ps := ps) (c := c) (a := a) (b := b)
  have aa := at_a (x := x) (ps := ps) (c := c) (a := a) (b := b)
  have ab := at_b (x := x) (ps := ps) (c := c) (a := a) (b := b)
  have rg := L_rng (T := []) hl
  have pr := L_pairs (x := x) (ps := ps) (c := c) (a := a) (b := b) (ρ := [some (.d (.str (txt (wds x ps c a b)))), some (.d (.list ((wds x ps c a b).map .str))), none, none]) rfl
  have il := L_isline (a := a) h0 h1 h3
  by_cases hc : c = Str.ofString ":"
  · subst hc
    have e : lnB x ps a b = (nmB x && ((decide (ps.length ≤ 12) && ps.all prB) && endB a b)) := rfl
    rw [← e] at il
    have lt : lineT x ps a b = .tuple [.str x, .tuple (ps.map prT), .tuple [.str a, .str b]] := rfl
    rw [lt] at il ⊢
    cases hb : lnB x ps a b with
    | true =>
      rw [hb] at il
      simp [m_line_by, sp, wds_len, n4, md, ac, ax, aa, ab, rg, pr, il, D.tupleD]
    | false =>
      rw [hb] at il
      simp [m_line_by, sp, wds_len, n4, md, ac, ax, aa, ab, rg, pr, il, D.tupleD]
  · simp [m_line_by, sp, wds_len, n4, md, ac, hc]
theorem read_wds {m : Nat} (h : Wd (wds x ps c a b) m) (hm : m ≤ 1000) : m__law_read [.d (.str (txt (wds x ps c a b)))] [] = some (if c = Str.ofString ":" ∧ lnB x ps a b = true then lineT x ps a b else .none, []) := by
  obtain ⟨h0, h1, h2, h3⟩ := wds_mm h.mm
  have hl : ps.length ≤ 1000 := by have := h.ln; rw [wds_len] at this; omega
  have sp := L_split h hm
  have n4 : ¬ (2 * (ps.length : Int) + 4 < 4) := by omega
  have md : (2 * (ps.length : Int) + 4) % 2 = 0 := by omega
  have ac := at_c (x := x) (ps := ps) (c := c) (a := a) (b := b)
  have ax := at_x (x := x) (ps := ps) (c := c) (a := a) (b := b)
  have cb := cut_ab (x := x) (ps := ps) (c := c) (a := a) (b := b)
  have rg := L_rng (T := []) hl
  have pr := L_pairs (x := x) (ps := ps) (c := c) (a := a) (b := b) (ρ := [some (.d (.str (txt (wds x ps c a b)))), some (.d (.list ((wds x ps c a b).map .str))), none, none, none, none]) rfl
  have cm := compL2_map (e := fAndV (fCall m__law_is_name (fCons (fVar 0) fNil)) (fBin inD (fVar 1) (fCall m__law_stamps fNil))) (ρ := [some (.d (.str (txt (wds x ps c a b)))), some (.d (.list ((wds x ps c a b).map .str))), some (.d (.list (ps.map prT))), none, none, none]) (T := []) (g := fun p => .bool (prB p)) (ps := ps) fun p hp => by
    have e1 := L_lnm (h1 p hp).1
    have e2 := inD_strs p.2 SM
    unfold prB
    cases hn : nmB p.1 with
    | false => rw [hn] at e1; simp [e1]
    | true => rw [hn] at e1; simp [e1, L_stamps, e2, stB]
  have al := all_bools prB ps
  have nb := L_lnm h3
  have nx := L_lnm h0
  have ib := inD_strs b SM
  have i2 := in2 (a := a)
  by_cases hc : c = Str.ofString ":"
  · subst hc
    by_cases h12 : ps.length ≤ 12
    · have n28 : ¬ (28 < 2 * (ps.length : Int) + 4) := by omega
      cases hp : ps.all prB with
      | false =>
        rw [hp] at al
        simp [m__law_read, sp, wds_len, n4, md, ac, n28, rg, pr, cm, al, lnB, hp]
      | true =>
        rw [hp] at al
        by_cases ha : a = Str.ofString "made"
        · subst ha
          cases hs : stB b with
          | false =>
            have hs' : (SM.any fun y => y == b) = false := hs
            rw [hs'] at ib
            cases hb : nmB b <;> (rw [hb] at nb; simp [m__law_read, sp, wds_len, n4, md, ac, n28, rg, pr, cm, al, cb, i2, ib, L_stamps, lnB, hp, endB, hs])
          | true =>
            have hs' : (SM.any fun y => y == b) = true := hs
            rw [hs'] at ib
            cases hx : nmB x <;> (rw [hx] at nx; simp [m__law_read, sp, wds_len, n4, md, ac, ax, n28, rg, pr, cm, al, cb, i2, ib, L_stamps, lnB, hp, endB, hs, hx, nx, h12, lineT, D.tupleD])
        · cases hf : (decide (a = Str.ofString "fails") || decide (a = Str.ofString "wants")) with
          | false =>
            rw [hf] at i2
            simp [m__law_read, sp, wds_len, n4, md, ac, n28, rg, pr, cm, al, cb, i2, ha, lnB, hp, endB, hf]
          | true =>
            rw [hf] at i2
            cases hb : nmB b with
            | false =>
              rw [hb] at nb
              simp [m__law_read, sp, wds_len, n4, md, ac, n28, rg, pr, cm, al, cb, i2, ha, nb, lnB, hp, endB, hf, hb]
            | true =>
              rw [hb] at nb
              cases hx : nmB x <;> (rw [hx] at nx; simp [m__law_read, sp, wds_len, n4, md, ac, ax, n28, rg, pr, cm, al, cb, i2, ha, nb, lnB, hp, endB, hf, hb, hx, nx, h12, lineT, D.tupleD])
    · have n28 : (28 < 2 * (ps.length : Int) + 4) := by omega
      simp [m__law_read, sp, wds_len, n4, md, ac, n28, lnB, h12]
  · simp [m__law_read, sp, wds_len, n4, ac, hc]
end
end G
namespace G
open PySem PySem.Spec PyProof.Rows L2 D
noncomputable def rdV (ws : List Str) : PyData := match m__law_read [.d (.str (txt ws))] [] with
  | some (d, _) => d
  | none => .none
noncomputable def Rd (d : PyData) : Prop := (d = .none ∨ ∃ l, d = .tuple l) ∧ Gd d 3 1479
theorem Rd.non : Rd .none := ⟨.inl rfl, Gd.none.mono (by omega) (by omega)⟩
theorem gd_str {w : Str} (h : w ∈ MM) : Gd (.str w) 0 19 := .str (mm_lo h) (mm_len h)
theorem gd_pair {a b : Str} (h : a ∈ MM) (g : b ∈ MM) : Gd (.tuple [.str a, .str b]) 1 40 := by
  refine (Gd.tuple (k := 0) (n := 19) fun d hd => ?_).mono (Nat.le_refl _) (by simp)
  simp at hd
  rcases hd with rfl | rfl
  · exact gd_str h
  · exact gd_str g
theorem gd_line {x : Str} {ps : List (Str × Str)} {a b : Str} (h0 : x ∈ MM) (h1 : MP ps) (h2 : a ∈ MM) (h3 : b ∈ MM) (hl : ps.length ≤ 12) : Gd (lineT x ps a b) 3 1479 := by
  have r : Gd (.tuple (ps.map prT)) 2 492 := by
    refine (Gd.tuple (k := 1) (n := 40) fun d hd => ?_).mono (Nat.le_refl _) (by rw [List.length_map]; omega)
    obtain ⟨p, hp, rfl⟩ := List.mem_map.mp hd
    exact gd_pair (h1 p hp).1 (h1 p hp).2
  refine (Gd.tuple (k := 2) (n := 492) fun d hd => ?_).mono (Nat.le_refl _) (by simp)
  simp at hd
  rcases hd with rfl | rfl | rfl
  · exact (gd_str h0).mono (by omega) (by omega)
  · exact r
  · exact (gd_pair h2 h3).mono (by omega) (by omega)
theorem both {ws : List Str} (h : Wd ws 40) : ∃ d, m_line_by [.d (.str (txt ws))] [] = some (d, []) ∧ m__law_read [.d (.str (txt ws))] [] = some (d, []) ∧ Rd d := by
  have sp := L_split h (by omega)
  by_cases h4 : ws.length < 4
  · have h4' : (ws.length : Int) < 4 := by omega
    exact ⟨.none, by simp [m_line_by, sp, h4'], by simp [m__law_read, sp, h4'], .non⟩
  · have h4' : ¬ (ws.length : Int) < 4 := by omega
    by_cases he : ws.length % 2 = 0
    · obtain ⟨x, ps, c, a, b, rfl⟩ := decomp (by omega) he
      refine ⟨_, by_wds h (by omega), read_wds h (by omega), ?_⟩
      obtain ⟨h0, h1, h2, h3⟩ := wds_mm h.mm
      split
      · rename_i hh
        have hp : ps.length ≤ 12 := by
          have := hh.2
          unfold lnB at this
          simp at this
          exact this.2.1.1
        exact ⟨.inr ⟨_, rfl⟩, gd_line h0 h1 h2 h3 hp⟩
      · exact .non
    · have he' : ¬ ((ws.length : Int) % 2 = 0) := by omega
      have ab := atI_back (xs := ws.map PyData.str) (j := 3) (by omega) (by simp; omega)
      obtain ⟨w, hw⟩ : ∃ w, (ws.map PyData.str)[(ws.map PyData.str).length - 3]? = some (.str w) := by
        have hlt : ws.length - 3 < ws.length := by omega
        exact ⟨ws[ws.length - 3], by simp [List.getElem?_eq_getElem hlt]⟩
      rw [hw] at ab
      have ab' : atI (ws.map PyData.str) (-3) = some (.str w) := ab
      refine ⟨.none, by simp [m_line_by, sp, h4', he'], ?_, .non⟩
      by_cases hc : w = Str.ofString ":"
      · simp [m__law_read, sp, h4', he', ab', hc]
      · simp [m__law_read, sp, h4', he', ab', hc]
theorem rd_ok {ws : List Str} (h : Wd ws 40) : m_line_by [.d (.str (txt ws))] [] = some (rdV ws, []) ∧ m__law_read [.d (.str (txt ws))] [] = some (rdV ws, []) ∧ Rd (rdV ws) := by
  obtain ⟨d, h1, h2, h3⟩ := both h
  have e : rdV ws = d := by unfold rdV; rw [h2]
  rw [e]
  exact ⟨h1, h2, h3⟩
noncomputable def tx (ws : List Str) : PyData := .str (txt ws)
noncomputable def TL (tl : List (List Str)) : Prop := ∀ ws ∈ tl, Wd ws 40
theorem rd_kind {d : PyData} (h : Rd d) : (isNone d = true ∧ PyData.eqv d .none = true) ∨ (isNone d = false ∧ PyData.eqv d .none = false) := by
  rcases h.1 with rfl | ⟨l, rfl⟩
  · exact .inl ⟨rfl, by simp [PyData.eqv]⟩
  · exact .inr ⟨rfl, by simp [PyData.eqv]⟩
theorem pp : ∀ (tl : List (List Str)) (k : Nat) (acc : List PyData), TL tl → acc.length + tl.length ≤ 1000 →
    (∃ j, ppL (tl.map tx) k acc [] = some (.inr (k + j), []) ∧ idxG .none (tl.map rdV) = some j ∧ j < tl.length ∧ (tl.map rdV).any (fun y => PyData.eqv y .none) = true) ∨ (ppL (tl.map tx) k acc [] = some (.inl (acc ++ tl.map rdV), []) ∧ (tl.map rdV).any (fun y => PyData.eqv y .none) = false)
  | [], k, acc, _, _ => .inr ⟨by simp [ppL], rfl⟩
  | ws :: r, k, acc, h, hl => by
    obtain ⟨h1, h2, h3⟩ := rd_ok (h ws List.mem_cons_self)
    have hs : ppL ((ws :: r).map tx) k acc [] = if isNone (rdV ws) = true then some (.inr k, []) else if acc.length < 1000 then ppL (r.map tx) (k + 1) (acc ++ [rdV ws]) [] else none := by
      show bnd (m_line_by [.d (.str (txt ws))] []) _ = _
      rw [h1]
      rfl
    rcases rd_kind h3 with ⟨a1, a2⟩ | ⟨a1, a2⟩
    · exact .inl ⟨0, by rw [hs, a1]; simp, by simp [idxG, a2], by simp, by simp [a2]⟩
    · rw [hs, a1]
      simp only [Bool.false_eq_true, if_false]
      rw [if_pos (by simp at hl; omega)]
      rcases pp r (k + 1) (acc ++ [rdV ws]) (fun w hw => h w (List.mem_cons_of_mem _ hw)) (by simp at hl ⊢; omega) with ⟨j, e1, e2, e3, e4⟩ | ⟨e1, e2⟩
      · refine .inl ⟨j + 1, by rw [e1]; congr 3; omega, by simp [idxG, a2, e2], by simp; omega, ?_⟩
        rw [List.map_cons, List.any_cons, e4, Bool.or_true]
      · refine .inr ⟨by rw [e1]; simp, ?_⟩
        rw [List.map_cons, List.any_cons, e2, a2]
        rfl
theorem gd_tx {ws : List Str} (h : Wd ws 40) : Gd (tx ws) 0 800 := .str (txt_lo h.mm) (by have := txt_len h.mm; have := h.ln; omega)
end G
namespace G
open PySem PySem.Spec PyProof.Rows L2 D
theorem eqv_self {d : PyData} (h : d.canLay0 = true) : PyData.eqv d d = true := PySem.SeqAt.eqv_refl d h
theorem neG_self {d : PyData} {k n : Nat} (h : Gd d k n) (hk : k ≤ 60) : neG d d = some (.bool false) := by
  have s := h.shaped hk
  show (if _ then _ else _) = _
  rw [if_pos ⟨s, s⟩, eqv_self h.cl]
  rfl
@[simp] theorem ev_idxG {fo fe : FE} {ρ : Rho} {T : Tp} : fIdxG fo fe ρ T = bnd (fo ρ T) fun w T1 => match w with
  | .d (.list xs) => bnd (fe ρ T1) (idxGK xs)
  | _ => none := rfl
theorem shaped_rd {tl : List (List Str)} (h : TL tl) : (tl.map rdV).all SeqAt.shaped = true := List.all_eq_true.mpr fun d hd => by
  obtain ⟨ws, hw, rfl⟩ := List.mem_map.mp hd
  exact (rd_ok (h ws hw)).2.2.2.shaped (by omega)
theorem L_paper {tl : List (List Str)} (h : TL tl) (hl : tl.length ≤ 10) : m__law_paper_right [.d (.list (tl.map tx))] [] = some (.bool true, []) := by
  have cm := compL_mapA (e := fCall m__law_read (fCons (fVar 0) fNil)) (ρ := [some (.d (.list (tl.map tx))), none, none, none]) (T := []) (q := tx) (g := rdV) (ds := tl) fun ws hw => by
    have := (rd_ok (h ws hw)).2.1
    simp [tx, this]
  have gt : Gd (.list (tl.map tx)) 1 8010 := (Gd.list (k := 0) (n := 800) fun d hd => by
    obtain ⟨ws, hw, rfl⟩ := List.mem_map.mp hd
    exact gd_tx (h ws hw)).mono (Nat.le_refl _) (by rw [List.length_map]; omega)
  have ng := neG_self gt (by omega)
  have sd := shaped_rd h
  have s0 : SeqAt.shaped .none = true := rfl
  have gd : Gd (.list (tl.map rdV)) 4 14800 := (Gd.list (k := 3) (n := 1479) fun d hd => by
    obtain ⟨ws, hw, rfl⟩ := List.mem_map.mp hd
    exact (rd_ok (h ws hw)).2.2.2).mono (Nat.le_refl _) (by rw [List.length_map]; omega)
  have hz : (tl.map tx).length ≤ 1000 := by rw [List.length_map]; omega
  have xp : x_paper [.d (.list (tl.map tx))] [] = ppL (tl.map tx) 0 [] [] := if_pos hz
  have ig : ∀ b, ((tl.map rdV).any fun y => PyData.eqv y .none) = b → inGM .none (.list (tl.map rdV)) = some (.bool b) := fun b hb => by
    show (if _ then _ else _) = _
    rw [if_pos ⟨s0, sd⟩, hb]
  rcases pp tl 0 [] h (by simp; omega) with ⟨j, e1, e2, e3, e4⟩ | ⟨e1, e2⟩
  · have td : m__law_told [.d (.list (tl.map tx))] [] = some (.tuple [.int j, .tuple [.bool true, .bool false]], []) := by
      unfold m__law_told
      rw [xp, e1]
      simp [toldK]
    have ix : idxGK (tl.map rdV) (.d .none) [] = some (.d (.int j), []) := by
      show (if _ then _ else _) = _
      rw [if_pos ⟨s0, sd⟩, e2]
    have gr : Gd (.tuple [.int j, .tuple [.bool true, .bool false]]) 2 402 := (Gd.tuple (k := 1) (n := 200) fun d hd => by
      simp at hd
      rcases hd with rfl | rfl
      · exact (Gd.int (by simp; omega)).mono (by omega) (by omega)
      · exact (Gd.tuple (k := 0) (n := 0) fun d hd => by
          simp at hd
          rcases hd with rfl | rfl <;> exact Gd.bool _).mono (by omega) (by simp)).mono (Nat.le_refl _) (by simp)
    have sm := L_same gr (by omega) (by omega)
    simp [m__law_paper_right, cm, td, ng, ig _ e4, ix, sm, D.listD]
  · have td : m__law_told [.d (.list (tl.map tx))] [] = some (.tuple [.list (tl.map rdV), .tuple []], []) := by
      unfold m__law_told
      rw [xp, e1]
      simp [toldK]
    have gr : Gd (.tuple [.list (tl.map rdV), .tuple []]) 5 29602 := (Gd.tuple (k := 4) (n := 14800) fun d hd => by
      simp at hd
      rcases hd with rfl | rfl
      · exact gd
      · exact (Gd.tuple (ds := []) (k := 0) (n := 0) fun d hd => by simp at hd).mono (by omega) (by simp)).mono (Nat.le_refl _) (by simp)
    have sm := L_same gr (by omega) (by omega)
    simp [m__law_paper_right, cm, td, ng, ig _ e2, sm, D.listD]
end G
namespace G
open PySem PySem.Spec PyProof.Rows L2 D
theorem frz_any {o : Option D.W} {r : Rho} : frzR (o :: r) = o.map frzW :: frzR r := rfl
theorem forL_nx {i : Nat} {b : FS} {d : PyData} {r : List PyData} {ρ ρ' : Rho} {T : Tp} (h : b (ρ.set i (some (.d d))) T = some ((.nx, ρ'), T)) : forL i b (d :: r) ρ T = forL i b r ρ' T := by
  show bnd (b (ρ.set i (some (.d d))) T) _ = _
  rw [h]
  rfl
section
variable {ns : List Int} (hn : ns.length ≤ 63)
include hn in
theorem pick (xs : List Str) (k : Int) (many : Int) (hk : 0 ≤ k) (hk' : k ≤ 90000) (hm : many = xs.length) (h0 : 0 < many) : ∃ r w, m__law_draw [.d (script ns), .d (.int k), .d (.int many)] [] = some (.int r, []) ∧ atI (xs.map PyData.str) r = some (.str w) ∧ w ∈ xs := by
  obtain ⟨r, e, a, b⟩ := L_draw ns k many []
  obtain ⟨y, h1, h2⟩ := atI_in (xs := xs.map PyData.str) (i := r) a (by simp; omega)
  obtain ⟨w, hw, rfl⟩ := List.mem_map.mp h2
  exact ⟨r, w, e, h1, hw⟩
noncomputable def lnBody : FS := (fSeq (fSet 4 (fBin ixD (fCall m__law_names fNil) (fCall m__law_draw (fCons (fVar 0) (fCons (fBin addD (fBin addD (fVar 1) (fC (.int 1))) (fBin mulD (fC (.int 2)) (fVar 3))) (fCons (fC (.int 8)) fNil)))))) (fApp 2 (fSeqD .tuple (fCons (fVar 4) (fCons (fBin ixD (fCall m__law_stamps fNil) (fCall m__law_draw (fCons (fVar 0) (fCons (fBin addD (fBin addD (fVar 1) (fC (.int 2))) (fBin mulD (fC (.int 2)) (fVar 3))) (fCons (fC (.int 9)) fNil))))) fNil)))))
theorem ln_eq : m__law_line = mkFn 7 (fSeq (fSetL 2 fNil) (fSeq (fFor 3 (fRng1 (fBin ixD (fSeqD .list (fCons (fC (.int 0)) (fCons (fC (.int 1)) (fCons (fC (.int 2)) (fCons (fC (.int 3)) (fCons (fC (.int 12)) (fCons (fC (.int 0)) fNil))))))) (fCall m__law_draw (fCons (fVar 0) (fCons (fVar 1) (fCons (fC (.int 6)) fNil)))))) lnBody) (fSeq (fSet 5 (fBin ixD (fSeqD .list (fCons (fC (.str (Str.ofString "made"))) (fCons (fC (.str (Str.ofString "fails"))) (fCons (fC (.str (Str.ofString "wants"))) fNil)))) (fCall m__law_draw (fCons (fVar 0) (fCons (fBin addD (fVar 1) (fC (.int 26))) (fCons (fC (.int 3)) fNil)))))) (fSeq (fSet 6 (fBin ixD (fCall m__law_names fNil) (fCall m__law_draw (fCons (fVar 0) (fCons (fBin addD (fVar 1) (fC (.int 27))) (fCons (fC (.int 8)) fNil)))))) (fSeq (fIf (fTst (fBin eqD (fVar 5) (fC (.str (Str.ofString "made"))))) (fSet 6 (fBin ixD (fCall m__law_stamps fNil) (fCall m__law_draw (fCons (fVar 0) (fCons (fBin addD (fVar 1) (fC (.int 28))) (fCons (fC (.int 9)) fNil)))))) fNext) (fRet (fSeqD .tuple (fCons (fBin ixD (fCall m__law_names fNil) (fCall m__law_draw (fCons (fVar 0) (fCons (fBin addD (fVar 1) (fC (.int 29))) (fCons (fC (.int 8)) fNil))))) (fCons (fCB tupleD (fCons (fVar 2) fNil)) (fCons (fSeqD .tuple (fCons (fVar 5) (fCons (fVar 6) fNil))) fNil)))))))))) := rfl
noncomputable def ρN (s : PyData) (k : Int) (acc : List PyData) (o3 o4 : Option D.W) : Rho := [some (.d s), some (.d (.int k)), some (.loc (.list acc)), o3, o4, none, none]
include hn in
theorem ln_loop {k : Int} (hk : 0 ≤ k) (hk' : k ≤ 1000) : ∀ (js : List PyData) (acc : List PyData) (o3 o4 : Option D.W), (∀ d ∈ js, ∃ i : Int, d = .int i ∧ 0 ≤ i ∧ i ≤ 20) → acc.length + js.length ≤ 100 →
    ∃ ps o3' o4', ps.length = js.length ∧ MP ps ∧ forL 3 lnBody js (ρN (script ns) k acc o3 o4) [] = some ((.nx, ρN (script ns) k (acc ++ ps.map prT) o3' o4'), [])
  | [], acc, o3, o4, _, _ => ⟨[], o3, o4, rfl, fun p hp => (by cases hp), by simp [forL]⟩
  | d :: js, acc, o3, o4, h, hl => by
    obtain ⟨i, rfl, i0, i1⟩ := h d List.mem_cons_self
    obtain ⟨r1, w1, e1, a1, m1⟩ := pick hn NM (k + 1 + 2 * i) 8 (by omega) (by omega) rfl (by decide)
    obtain ⟨r2, w2, e2, a2, m2⟩ := pick hn SM (k + 2 + 2 * i) 9 (by omega) (by omega) rfl (by decide)
    have hz : acc.length < sizeLine := Nat.lt_of_lt_of_le (show acc.length < 1000 by simp at hl; omega) (by decide)
    have b0 : -18446744073709551616 < i ∧ i < 18446744073709551616 := by omega
    have st : lnBody ((ρN (script ns) k acc o3 o4).set 3 (some (.d (.int i)))) [] = some ((.nx, ρN (script ns) k (acc ++ [prT (w1, w2)]) (some (.d (.int i))) (some (.d (.str w1)))), []) := by
      simp [lnBody, ρN, L_nms, L_stamps, b0, e1, a1, e2, a2, hz, prT]
    obtain ⟨ps, o3', o4', l1, l2, l3⟩ := ln_loop hk hk' js (acc ++ [prT (w1, w2)]) (some (.d (.int i))) (some (.d (.str w1))) (fun d hd => h d (List.mem_cons_of_mem _ hd)) (by simp at hl ⊢; omega)
    refine ⟨(w1, w2) :: ps, o3', o4', by simp [l1], fun p hp => ?_, ?_⟩
    · rcases List.mem_cons.mp hp with z | z
      · rw [z]; exact ⟨nm_mm m1, sm_mm m2⟩
      · exact l2 p z
    · rw [forL_nx st, l3]
      simp
include hn in
theorem L_line {k : Int} (hk : 0 ≤ k) (hk' : k ≤ 1000) : ∃ x ps a b, m__law_line [.d (script ns), .d (.int k)] [] = some (lineT x ps a b, []) ∧ x ∈ MM ∧ MP ps ∧ a ∈ MM ∧ b ∈ MM ∧ ps.length ≤ 12 := by
  obtain ⟨r, e0, a0, b0⟩ := L_draw ns k 6 []
  obtain ⟨m, hm1, hm2, hm3⟩ : ∃ m : Nat, atI [PyData.int 0, .int 1, .int 2, .int 3, .int 12, .int 0] r = some (.int (m : Int)) ∧ m ≤ 12 ∧ rngOk (m : Int) = true := by
    have : r = 0 ∨ r = 1 ∨ r = 2 ∨ r = 3 ∨ r = 4 ∨ r = 5 := by omega
    rcases this with rfl | rfl | rfl | rfl | rfl | rfl
    · exact ⟨0, rfl, by omega, by decide⟩
    · exact ⟨1, rfl, by omega, by decide⟩
    · exact ⟨2, rfl, by omega, by decide⟩
    · exact ⟨3, rfl, by omega, by decide⟩
    · exact ⟨12, rfl, by omega, by decide⟩
    · exact ⟨0, rfl, by omega, by decide⟩
  obtain ⟨ps, o3, o4, l1, l2, l3⟩ := ln_loop hn hk hk' (numsD 0 m) [] none none (fun d hd => by
    unfold numsD at hd
    obtain ⟨i, hi, rfl⟩ := List.mem_map.mp hd
    have := List.mem_range.mp hi
    exact ⟨_, rfl, by omega, by omega⟩) (by simp [numsD]; omega)
  have hpl : ps.length ≤ 12 := by rw [l1]; simp [numsD]; omega
  obtain ⟨r5, w5, e5, a5, m5⟩ := pick hn [Str.ofString "made", Str.ofString "fails", Str.ofString "wants"] (k + 26) 3 (by omega) (by omega) rfl (by decide)
  obtain ⟨r6, w6, e6, a6, m6⟩ := pick hn NM (k + 27) 8 (by omega) (by omega) rfl (by decide)
  obtain ⟨r7, w7, e7, a7, m7⟩ := pick hn SM (k + 28) 9 (by omega) (by omega) rfl (by decide)
  obtain ⟨r8, w8, e8, a8, m8⟩ := pick hn NM (k + 29) 8 (by omega) (by omega) rfl (by decide)
  have m5' : w5 ∈ MM := by
    simp at m5
    rcases m5 with rfl | rfl | rfl <;> exact nm_mm (by simp [NM])
  simp only [ρN] at l3
  simp only [List.map_cons, List.map_nil] at a5
  by_cases hw : w5 = Str.ofString "made"
  · refine ⟨w8, ps, w5, w7, ?_, nm_mm m8, l2, m5', sm_mm m7, hpl⟩
    simp only [List.nil_append] at l3
    rw [ln_eq]
    simp [e0, hm1, hm3, l3, e5, a5, hw, L_nms, e6, a6, L_stamps, e7, a7, e8, a8, lineT, D.tupleD, frz_any, frzW]
  · refine ⟨w8, ps, w5, w6, ?_, nm_mm m8, l2, m5', nm_mm m6, hpl⟩
    simp only [List.nil_append] at l3
    rw [ln_eq]
    simp [e0, hm1, hm3, l3, e5, a5, hw, L_nms, e6, a6, e8, a8, lineT, D.tupleD, frz_any, frzW]
end
end G
namespace G
open PySem PySem.Spec PyProof.Rows L2 D
theorem le1000 {n : Nat} (h : n ≤ 1000) : n ≤ sizeLine := Nat.le_trans h (by decide)
noncomputable def ltB : FS := fSet 1 (fBin addD (fVar 1) (fSeqD .list (fCons (fVar 2) (fCons (fVar 3) fNil))))
theorem text_loop {L : Option D.W} : ∀ (ps : List (Str × Str)) (acc : List Str) (o2 o3 : Option D.W), acc.length + 2 * ps.length ≤ 900 →
    ∃ o2' o3', forT 2 3 ltB (ps.map prT) [L, some (.d (.list (acc.map .str))), o2, o3] [] = some ((.nx, [L, some (.d (.list ((acc ++ flat ps).map .str))), o2', o3']), [])
  | [], acc, o2, o3, _ => ⟨o2, o3, by simp [forT, flat]⟩
  | p :: r, acc, o2, o3, h => by
    obtain ⟨o2', o3', e⟩ := text_loop (L := L) r (acc ++ [p.1, p.2]) (some (.d (.str p.1))) (some (.d (.str p.2))) (by simp at h ⊢; omega)
    refine ⟨o2', o3', ?_⟩
    have hz : acc.length + 2 ≤ sizeLine := le1000 (by simp at h; omega)
    have st : ltB (([L, some (.d (.list (acc.map .str))), o2, o3] : Rho).set 2 (some (.d (.str p.1))) |>.set 3 (some (.d (.str p.2)))) [] = some ((.nx, [L, some (.d (.list ((acc ++ [p.1, p.2]).map .str))), some (.d (.str p.1)), some (.d (.str p.2))]), []) := by
      simp [ltB, hz]
    show bnd (ltB _ []) _ = _
    rw [st]
    show forT 2 3 ltB (r.map prT) _ [] = _
    rw [e]
    have : acc ++ [p.1, p.2] ++ flat r = acc ++ flat (p :: r) := by simp [flat]
    rw [this]
@[simp] theorem ev_forT {i j : Nat} {it : FI} {b : FS} {ρ : Rho} {T : Tp} : fForT i j it b ρ T = bnd (it ρ T) fun ds T1 => forT i j b ds ρ T1 := rfl
theorem lt_eq : m__law_text = mkFn 4 (fSeq (fSet 1 (fSeqD .list (fCons (fBin ixD (fVar 0) (fC (.int 0))) fNil))) (fSeq (fForT 2 3 (fIter (fBin ixD (fVar 0) (fC (.int 1)))) ltB) (fRet (fBin joinA (fC (.str (Str.ofString " "))) (fBin addD (fBin addD (fVar 1) (fSeqD .list (fCons (fC (.str (Str.ofString ":"))) fNil))) (fCB listD (fCons (fBin ixD (fVar 0) (fC (.int 2))) fNil))))))) := rfl
section
variable {x : Str} {ps : List (Str × Str)} {a b : Str}
theorem wds_ok (h0 : x ∈ MM) (h1 : MP ps) (h2 : a ∈ MM) (h3 : b ∈ MM) (hl : ps.length ≤ 12) : Wd (wds x ps (Str.ofString ":") a b) 28 := by
  refine ⟨by simp [wds], fun w hw => ?_, by rw [wds_len]; omega⟩
  simp only [wds, List.mem_cons, List.mem_append, List.not_mem_nil, or_false] at hw
  rcases hw with rfl | hw | rfl | rfl | rfl
  · exact h0
  · unfold flat at hw
    obtain ⟨p, hp, hw⟩ := List.mem_flatMap.mp hw
    simp at hw
    rcases hw with rfl | rfl
    · exact (h1 p hp).1
    · exact (h1 p hp).2
  · exact om_mm (by simp [OM])
  · exact h2
  · exact h3
theorem join_wds (h0 : x ∈ MM) (h1 : MP ps) (h2 : a ∈ MM) (h3 : b ∈ MM) (hl : ps.length ≤ 12) : joinA (.str (Str.ofString " ")) (.list (((x :: flat ps).map PyData.str ++ [.str (Str.ofString ":")]) ++ [.str a, .str b])) = some (tx (wds x ps (Str.ofString ":") a b)) := by
  have w := wds_ok h0 h1 h2 h3 hl
  have := L_join (m := 28) w.mm (by have := w.ln; omega)
  show _ = some (PyData.str (txt _))
  rw [← this]
  congr 2
  simp [wds]
theorem L_text (h0 : x ∈ MM) (h1 : MP ps) (h2 : a ∈ MM) (h3 : b ∈ MM) (hl : ps.length ≤ 12) : m__law_text [.d (lineT x ps a b)] [] = some (tx (wds x ps (Str.ofString ":") a b), []) := by
  obtain ⟨o2, o3, e⟩ := text_loop (L := some (.d (lineT x ps a b))) ps [x] none none (by simp; omega)
  have j := join_wds h0 h1 h2 h3 hl
  have z1 : (flat ps).length + 1 + 1 ≤ sizeLine := le1000 (by rw [flat_length]; omega)
  have z2 : (flat ps).length + 1 + 1 + 2 ≤ sizeLine := le1000 (by rw [flat_length]; omega)
  rw [lt_eq]
  simp only [lineT] at e ⊢
  simp only [List.map_cons, List.map_nil, List.singleton_append] at e j
  simp at j
  simp [e, z1, z2, frz_any, frzW, D.listD, j]
theorem ext_loop {L : Option D.W} : ∀ (ps : List (Str × Str)) (acc : List Str) (o2 : Option D.W), acc.length + 2 * ps.length ≤ 900 →
    ∃ o2', forL 2 (fExtT 1 (fVar 2)) (ps.map prT) [L, some (.loc (.list (acc.map .str))), o2] [] = some ((.nx, [L, some (.loc (.list ((acc ++ flat ps).map .str))), o2']), [])
  | [], acc, o2, _ => ⟨o2, by simp [forL, flat]⟩
  | p :: r, acc, o2, h => by
    obtain ⟨o2', e⟩ := ext_loop (L := L) r (acc ++ [p.1, p.2]) (some (.d (prT p))) (by simp at h ⊢; omega)
    refine ⟨o2', ?_⟩
    have st : fExtT 1 (fVar 2) (([L, some (.loc (.list (acc.map .str))), o2] : Rho).set 2 (some (.d (prT p)))) [] = some ((.nx, [L, some (.loc (.list ((acc ++ [p.1, p.2]).map .str))), some (.d (prT p))]), []) := by
      have hz : (acc.map PyData.str).length + [PyData.str p.1, .str p.2].length ≤ 1000 := by simp at h ⊢; omega
      show (if (acc.map PyData.str).length + [PyData.str p.1, .str p.2].length ≤ 1000 then _ else none) = _
      rw [if_pos hz]
      simp
    rw [List.map_cons, forL_nx st, e]
    have : acc ++ [p.1, p.2] ++ flat r = acc ++ flat (p :: r) := by simp [flat]
    rw [this]
theorem L_ltext (h0 : x ∈ MM) (h1 : MP ps) (h2 : a ∈ MM) (h3 : b ∈ MM) (hl : ps.length ≤ 12) : m_line_text [.d (lineT x ps a b)] [] = some (tx (wds x ps (Str.ofString ":") a b), []) := by
  obtain ⟨o2, e⟩ := ext_loop (L := some (.d (lineT x ps a b))) ps [x] none (by simp; omega)
  have j := join_wds h0 h1 h2 h3 hl
  have z1 : (flat ps).length + 1 + 1 ≤ sizeLine := le1000 (by rw [flat_length]; omega)
  have z2 : (flat ps).length + 1 + 1 + 2 ≤ sizeLine := le1000 (by rw [flat_length]; omega)
  simp only [lineT] at e ⊢
  simp only [List.map_cons, List.map_nil, List.singleton_append] at e j
  simp at j
  simp [m_line_text, e, z1, z2, frz_any, frzW, D.listD, j]
end
end G
namespace G
open PySem PySem.Spec PyProof.Rows L2 D
noncomputable def btR : FS := (fSeq (fIf (fTst (fBin eqD (fVar 7) (fC (.int 0)))) (fRet (fBin joinA (fC (.str (Str.ofString " "))) (fBin addD (fSl (fVar 4) fNoP (fP (fVar 5))) (fSl (fVar 4) (fP (fBin addD (fVar 5) (fC (.int 1)))) fNoP)))) fNext) (fSeq (fIf (fTst (fBin eqD (fVar 7) (fC (.int 1)))) (fRet (fBin joinA (fC (.str (Str.ofString " "))) (fBin addD (fSl (fVar 4) fNoP (fP (fBin addD (fVar 5) (fC (.int 1))))) (fSl (fVar 4) (fP (fVar 5)) fNoP)))) fNext) (fSeq (fIf (fTst (fBin eqD (fVar 7) (fC (.int 2)))) (fSeq (fInsP 4 (fVar 5) (fBin modD (fBin addD (fVar 5) (fC (.int 1))) (fCB lenD (fCons (fVar 4) fNil)))) (fRet (fBin joinA (fC (.str (Str.ofString " "))) (fVar 4)))) fNext) (fSeq (fIf (fTst (fBin eqD (fVar 7) (fC (.int 3)))) (fRet (fBin joinA (fC (.str (Str.ofString " "))) (fBin addD (fBin addD (fSl (fVar 4) fNoP (fP (fVar 5))) (fSeqD .list (fCons (fVar 6) fNil))) (fSl (fVar 4) (fP (fVar 5)) fNoP)))) fNext) (fRet (fBin joinA (fC (.str (Str.ofString " "))) (fBin addD (fBin addD (fSl (fVar 4) fNoP (fP (fVar 5))) (fSeqD .list (fCons (fVar 6) fNil))) (fSl (fVar 4) (fP (fBin addD (fVar 5) (fC (.int 1)))) fNoP))))))))
noncomputable def ρB (s : PyData) (k : Int) (ws : List Str) (at' : Int) (w : Str) (way : Int) : Rho := [some (.d s), some (.d (.int k)), some (.d (tx ws)), some (.loc (.list (MM.map .str))), some (.loc (.list (ws.map .str))), some (.d (.int at')), some (.d (.str w)), some (.d (.int way))]
theorem mm_sub {ws vs : List Str} (h : ∀ w ∈ ws, w ∈ MM) (s : ∀ w ∈ vs, w ∈ ws ∨ w ∈ MM) : ∀ w ∈ vs, w ∈ MM := fun w hw => (s w hw).elim (h w) id
theorem jn {ws : List Str} {m : Nat} {l : List PyData} (h : Wd ws m) (hm : m ≤ 40) (e : l = ws.map PyData.str) : joinA (.str (Str.ofString " ")) (.list l) = some (tx ws) := by
  rw [e]
  exact L_join (m := m) h.mm (by have := h.ln; omega)
theorem ne_of_len {ws : List Str} (h : 1 ≤ ws.length) : ws ≠ [] := fun e => by rw [e] at h; simp at h
theorem ins_ip {ρ : Rho} {a b : Int} {xs : List PyData} {y : PyData} (h5 : fVar 5 ρ [] = some (.d (.int a), [])) (hm : fBin modD (fBin addD (fVar 5) (fC (.int 1))) (fCB lenD (fCons (fVar 4) fNil)) ρ [] = some (.d (.int b), [])) (h4 : ρ[4]? = some (some (.loc (.list xs)))) (hc : 0 ≤ a ∧ a < (xs.length : Int) ∧ 0 ≤ b ∧ xs.length ≤ 1000) (hy : xs[b.toNat]? = some y) :
    fInsP 4 (fVar 5) (fBin modD (fBin addD (fVar 5) (fC (.int 1))) (fCB lenD (fCons (fVar 4) fNil))) ρ [] = some ((.nx, ρ.set 4 (some (.loc (.list ((xs.eraseIdx b.toNat).take a.toNat ++ y :: (xs.eraseIdx b.toNat).drop a.toNat))))), []) := by
  unfold fInsP
  rw [h5, bnd_mk, hm, bnd_mk, h4]
  unfold insPK
  simp only
  rw [if_pos hc, hy]
theorem L_btR {s : PyData} {k : Int} {ws : List Str} {m : Nat} {a : Int} {w : Str} {way : Int} (h : Wd ws m) (hm : m ≤ 39) (h2 : 2 ≤ ws.length) (a0 : 0 ≤ a) (a1 : a < ws.length) (hw : w ∈ MM) :
    ∃ ws', fnEnd (btR (ρB s k ws a w way) []) = some (tx ws', []) ∧ Wd ws' (m + 1) ∧ ws.length ≤ ws'.length + 1 := by
  have hl := h.ln
  have l0 : (ws.map PyData.str).length = ws.length := List.length_map _
  have c1 := cut_to (ws.map PyData.str) a0 (by rw [l0]; omega)
  have c2 := cut_from (ws.map PyData.str) (i := a + 1) (by omega) (by rw [l0]; omega)
  have c3 := cut_to (ws.map PyData.str) (i := a + 1) (by omega) (by rw [l0]; omega)
  have c4 := cut_from (ws.map PyData.str) a0 (by rw [l0]; omega)
  by_cases w0 : way = 0
  · have g : Wd (ws.take a.toNat ++ ws.drop (a + 1).toNat) (m + 1) := ⟨ne_of_len (by simp; omega), mm_sub h.mm fun v hv => .inl ((List.mem_append.mp hv).elim List.mem_of_mem_take List.mem_of_mem_drop), by simp; omega⟩
    have j := jn (l := (ws.map PyData.str).take a.toNat ++ (ws.map PyData.str).drop (a + 1).toNat) g (by omega) (by simp)
    have z : ((ws.map PyData.str).take a.toNat).length + ((ws.map PyData.str).drop (a + 1).toNat).length ≤ sizeLine := le1000 (by simp; omega)
    refine ⟨_, ?_, g, by simp; omega⟩
    simp only [btR, ρB]
    simp [w0, frz_any, frzW, c1, c2]
    simp at z j
    simp [z, j]
  by_cases w1 : way = 1
  · have g : Wd (ws.take (a + 1).toNat ++ ws.drop a.toNat) (m + 1) := ⟨ne_of_len (by simp; omega), mm_sub h.mm fun v hv => .inl ((List.mem_append.mp hv).elim List.mem_of_mem_take List.mem_of_mem_drop), by simp; omega⟩
    have j := jn (l := (ws.map PyData.str).take (a + 1).toNat ++ (ws.map PyData.str).drop a.toNat) g (by omega) (by simp)
    have z : ((ws.map PyData.str).take (a + 1).toNat).length + ((ws.map PyData.str).drop a.toNat).length ≤ sizeLine := le1000 (by simp; omega)
    refine ⟨_, ?_, g, by simp; omega⟩
    simp only [btR, ρB]
    simp [w1, frz_any, frzW, c3, c4]
    simp at z j
    simp [z, j]
  by_cases w2 : way = 2
  · obtain ⟨b, hb0, hb1, hb2⟩ : ∃ b : Int, (a + 1) % (ws.length : Int) = b ∧ 0 ≤ b ∧ b < ws.length := ⟨_, rfl, Int.emod_nonneg _ (by omega), Int.emod_lt_of_pos _ (by omega)⟩
    have hbn : b.toNat < ws.length := by omega
    have el : (ws.eraseIdx b.toNat).length = ws.length - 1 := by rw [List.length_eraseIdx, if_pos hbn]
    have g : Wd ((ws.eraseIdx b.toNat).take a.toNat ++ ws[b.toNat] :: (ws.eraseIdx b.toNat).drop a.toNat) (m + 1) := ⟨ne_of_len (by simp; omega), mm_sub h.mm fun v hv => .inl (by
      rcases List.mem_append.mp hv with q | q
      · exact List.mem_of_mem_eraseIdx (List.mem_of_mem_take q)
      · rcases List.mem_cons.mp q with q | q
        · rw [q]; exact List.getElem_mem hbn
        · exact List.mem_of_mem_eraseIdx (List.mem_of_mem_drop q)), by simp [el]; omega⟩
    have me : (ws.map PyData.str).eraseIdx b.toNat = (ws.eraseIdx b.toNat).map PyData.str := by
      rw [List.eraseIdx_eq_take_drop_succ, List.eraseIdx_eq_take_drop_succ]
      simp
    have j := jn (l := ((ws.map PyData.str).eraseIdx b.toNat).take a.toNat ++ .str ws[b.toNat] :: ((ws.map PyData.str).eraseIdx b.toNat).drop a.toNat) g (by omega) (by rw [me]; simp)
    refine ⟨_, ?_, g, by simp [el]; omega⟩
    have hx : (ws.map PyData.str)[b.toNat]? = some (.str ws[b.toNat]) := by simp [List.getElem?_eq_getElem hbn]
    have hc : 0 ≤ a ∧ a < ((ws.map PyData.str).length : Int) ∧ 0 ≤ b ∧ (ws.map PyData.str).length ≤ 1000 := by rw [l0]; omega
    have nz : ¬ ws = [] := h.ne
    have ip := ins_ip (ρ := ρB s k ws a w way) (a := a) (b := b) rfl (by simp [ρB, nz, hb0]) rfl hc hx
    simp only [ρB] at ip ⊢
    simp only [btR]
    simp [w2] at ip ⊢
    simp [ip, frz_any, frzW]
    simp at j
    simp [j]
  by_cases w3 : way = 3
  · have g : Wd (ws.take a.toNat ++ [w] ++ ws.drop a.toNat) (m + 1) := ⟨ne_of_len (by simp; omega), mm_sub h.mm fun v hv => by
      rcases List.mem_append.mp hv with q | q
      · rcases List.mem_append.mp q with q | q
        · exact .inl (List.mem_of_mem_take q)
        · rw [List.mem_singleton.mp q]; exact .inr hw
      · exact .inl (List.mem_of_mem_drop q), by simp; omega⟩
    have j := jn (l := (ws.map PyData.str).take a.toNat ++ [.str w] ++ (ws.map PyData.str).drop a.toNat) g (by omega) (by simp)
    have z1 : ((ws.map PyData.str).take a.toNat).length + 1 ≤ sizeLine := le1000 (by simp; omega)
    have z : ((ws.map PyData.str).take a.toNat ++ [PyData.str w]).length + ((ws.map PyData.str).drop a.toNat).length ≤ sizeLine := le1000 (by simp; omega)
    refine ⟨_, ?_, g, by simp; omega⟩
    simp only [btR, ρB]
    simp [w3, frz_any, frzW, c1, c4]
    simp at z z1 j
    simp [z, z1, j]
  · have g : Wd (ws.take a.toNat ++ [w] ++ ws.drop (a + 1).toNat) (m + 1) := ⟨ne_of_len (by simp; omega), mm_sub h.mm fun v hv => by
      rcases List.mem_append.mp hv with q | q
      · rcases List.mem_append.mp q with q | q
        · exact .inl (List.mem_of_mem_take q)
        · rw [List.mem_singleton.mp q]; exact .inr hw
      · exact .inl (List.mem_of_mem_drop q), by simp; omega⟩
    have j := jn (l := (ws.map PyData.str).take a.toNat ++ [.str w] ++ (ws.map PyData.str).drop (a + 1).toNat) g (by omega) (by simp)
    have z1 : ((ws.map PyData.str).take a.toNat).length + 1 ≤ sizeLine := le1000 (by simp; omega)
    have z : ((ws.map PyData.str).take a.toNat ++ [PyData.str w]).length + ((ws.map PyData.str).drop (a + 1).toNat).length ≤ sizeLine := le1000 (by simp; omega)
    refine ⟨_, ?_, g, by simp; omega⟩
    simp only [btR, ρB]
    simp [w0, w1, w2, w3, frz_any, frzW, c1, c2]
    simp at z z1 j
    simp [z, z1, j]
end G
namespace G
open PySem PySem.Spec PyProof.Rows L2 D
theorem bt_pre {s t : PyData} {k : Int} (R : FS) : fSeq (fSetA 3 (fBin addD (fCall m__law_names fNil) (fCall m__law_stamps fNil)) (fSeqD .list (fCons (fC (.str (Str.ofString ":"))) (fCons (fC (.str (Str.ofString ""))) (fCons (fC (.str (Str.ofString "A"))) (fCons (fC (.str (Str.ofString "abcdefghi"))) (fCons (fC (.str (Str.ofString "01"))) (fCons (fC (.str (Str.ofString "-0"))) (fCons (fC (.str (Str.ofString "'A"))) (fCons (fC (.str (Str.ofString "(1,)"))) (fCons (fC (.str (Str.ofString "("))) (fCons (fC (.str (Str.ofString "1)"))) (fCons (fC (.str (Str.ofString "x1"))) (fCons (fC (.str (Str.ofString "::"))) fNil)))))))))))))) (fSeq (fApp 3 (fC (.str (Str.ofString "1000000000000000001")))) R) [some (.d s), some (.d (.int k)), some (.d t), none, none, none, none, none] [] = R [some (.d s), some (.d (.int k)), some (.d t), some (.loc (.list (MM.map .str))), none, none, none, none] [] := rfl
noncomputable def btM : FS := (fSeq (fSetSp 4 (fVar 2) (fC (.str (Str.ofString " ")))) (fSeq (fSet 5 (fCall m__law_draw (fCons (fVar 0) (fCons (fVar 1) (fCons (fCB lenD (fCons (fVar 4) fNil)) fNil))))) (fSeq (fSet 6 (fBin ixD (fVar 3) (fCall m__law_draw (fCons (fVar 0) (fCons (fBin addD (fVar 1) (fC (.int 1))) (fCons (fCB lenD (fCons (fVar 3) fNil)) fNil)))))) (fSeq (fSet 7 (fCall m__law_draw (fCons (fVar 0) (fCons (fBin addD (fVar 1) (fC (.int 2))) (fCons (fC (.int 7)) fNil))))) btR))))
theorem bt_eq : m__law_bent = mkFn 8 (fSeq (fSetA 3 (fBin addD (fCall m__law_names fNil) (fCall m__law_stamps fNil)) (fSeqD .list (fCons (fC (.str (Str.ofString ":"))) (fCons (fC (.str (Str.ofString ""))) (fCons (fC (.str (Str.ofString "A"))) (fCons (fC (.str (Str.ofString "abcdefghi"))) (fCons (fC (.str (Str.ofString "01"))) (fCons (fC (.str (Str.ofString "-0"))) (fCons (fC (.str (Str.ofString "'A"))) (fCons (fC (.str (Str.ofString "(1,)"))) (fCons (fC (.str (Str.ofString "("))) (fCons (fC (.str (Str.ofString "1)"))) (fCons (fC (.str (Str.ofString "x1"))) (fCons (fC (.str (Str.ofString "::"))) fNil)))))))))))))) (fSeq (fApp 3 (fC (.str (Str.ofString "1000000000000000001")))) btM)) := rfl
theorem bt_go {s t : PyData} {k : Int} : m__law_bent [.d s, .d (.int k), .d t] [] = fnEnd (btM [some (.d s), some (.d (.int k)), some (.d t), some (.loc (.list (MM.map .str))), none, none, none, none] []) := by
  rw [bt_eq, ← bt_pre btM]
  rfl
noncomputable def lwB : FS := (fSeq (fSet 5 (fBin addD (fC (.int 200)) (fBin mulD (fC (.int 10)) (fVar 4)))) (fSeq (fSet 6 (fCall m__law_draw (fCons (fVar 0) (fCons (fVar 5) (fCons (fCB lenD (fCons (fVar 2) fNil)) fNil))))) (fSeq (fIf (fNotT (fTru (fCall m__law_same (fCons (fCall m_line_text (fCons (fBin ixD (fVar 1) (fVar 6)) fNil)) (fCons (fBin ixD (fVar 2) (fVar 6)) fNil))))) (fRet (fC (.bool false))) fNext) (fSeq (fSet 7 (fCall m__law_bent (fCons (fVar 0) (fCons (fBin addD (fVar 5) (fC (.int 1))) (fCons (fBin ixD (fVar 2) (fVar 6)) fNil))))) (fSeq (fIf (fTst (fBin eqD (fCall m__law_draw (fCons (fVar 0) (fCons (fBin addD (fVar 5) (fC (.int 4))) (fCons (fC (.int 3)) fNil)))) (fC (.int 0)))) (fSet 7 (fCall m__law_bent (fCons (fVar 0) (fCons (fBin addD (fVar 5) (fC (.int 5))) (fCons (fVar 7) fNil))))) fNext) (fSeq (fPutL 3 (fVar 6) (fVar 7)) (fIf (fOrT (fNotT (fTru (fCall m__law_same (fCons (fCall m_line_by (fCons (fVar 7) fNil)) (fCons (fCall m__law_read (fCons (fVar 7) fNil)) fNil))))) (fNotT (fTru (fCallF m__law_paper_right (fCons (fVar 3) fNil))))) (fRet (fC (.bool false))) fNext)))))))
theorem law_eq : m_law = mkFn 8 (fSeq (fSet 1 (fComp (fRng1 (fBin addD (fC (.int 1)) (fCall m__law_draw (fCons (fVar 0) (fCons (fC (.int 0)) (fCons (fC (.int 4)) fNil)))))) fTrue (fCall m__law_line (fCons (fVar 1) (fCons (fBin addD (fC (.int 10)) (fBin mulD (fC (.int 30)) (fVar 0))) fNil))))) (fSeq (fSet 2 (fComp (fIter (fVar 1)) fTrue (fCall m__law_text (fCons (fVar 0) fNil)))) (fSeq (fIf (fOrT (fNotT (fTru (fCall m__law_same (fCons (fCall m_paper_texts (fCons (fCB listD (fCons (fVar 1) fNil)) fNil)) (fCons (fVar 2) fNil))))) (fNotT (fTru (fCall m__law_same (fCons (fCall m_paper_texts (fCons (fSeqD .list fNil) fNil)) (fCons (fSeqD .list fNil) fNil)))))) (fRet (fC (.bool false))) fNext) (fSeq (fIf (fOrT (fNotT (fTru (fCall m__law_paper_right (fCons (fVar 2) fNil)))) (fNotT (fTru (fCall m__law_paper_right (fCons (fSeqD .list fNil) fNil))))) (fRet (fC (.bool false))) fNext) (fSeq (fSetLC 3 (fVar 2)) (fSeq (fFor 4 (fRng1 (fC (.int 6))) lwB) (fRet (fC (.bool true))))))))) := rfl
@[simp] theorem ev_setSp {i : Nat} {f g : FE} {ρ : Rho} {T : Tp} : fSetSp i f g ρ T = bnd (f ρ T) fun w1 T1 => bnd (g ρ T1) fun w2 T2 => setSpK i ρ T2 (splS w1 w2) := rfl
@[simp] theorem ev_setA {i : Nat} {f g : FE} {ρ : Rho} {T : Tp} : fSetA i f g ρ T = bnd (f ρ T) fun w1 T1 => bnd (g ρ T1) fun w2 T2 => setAK i ρ (view T2 w1) (view T2 w2) T2 := rfl
@[simp] theorem ev_setAK {i : Nat} {ρ : Rho} {T : Tp} {xs ys : List PyData} : setAK i ρ (some (.list xs)) (some (.list ys)) T = if xs.length + ys.length ≤ sizeLine then some ((.nx, ρ.set i (some (.loc (.list (xs ++ ys))))), T) else none := rfl
@[simp] theorem ev_op2LL {o : PyData → PyData → Option PyData} {T : Tp} {y : PyData} {xs : List PyData} : op2 o T (.loc (.list xs)) (.d y) = mkD T (o (.list xs) y) := rfl
noncomputable def callFK (m : FnM) (ws : List D.W) (T1 : Tp) : Option (D.W × Tp) := if noTp ws = true then (match m (ws.map frzW) [] with
  | some (x, _) => if tupB x = true then some (.d x, T1) else none
  | none => none) else none
@[simp] theorem ev_callF {m : FnM} {a : FA} {ρ : Rho} {T : Tp} : fCallF m a ρ T = bnd (a ρ T) (callFK m) := rfl
theorem callFK_ok {m : FnM} {ws : List D.W} {T T' : Tp} {x : PyData} (h1 : noTp ws = true) (h2 : m (ws.map frzW) [] = some (x, T')) (h3 : tupB x = true) : callFK m ws T = some (.d x, T) := by
  unfold callFK
  rw [if_pos h1, h2]
  exact if_pos h3
theorem L_splS {ws : List Str} {m : Nat} (h : Wd ws m) (hm : m ≤ 1000) : splS (.d (tx ws)) (.d (.str (Str.ofString " "))) = some (ws.map .str) := by
  show (if _ then _ else _) = _
  rw [if_pos ⟨rfl, fit_txt h hm⟩, split_txt h]
section
variable {ns : List Int} (hn : ns.length ≤ 63)
include hn in
theorem L_bent {k : Int} {ws : List Str} {m : Nat} (hk : 0 ≤ k) (hk' : k ≤ 1000) (h : Wd ws m) (hm : m ≤ 39) (h2 : 2 ≤ ws.length) : ∃ ws', m__law_bent [.d (script ns), .d (.int k), .d (tx ws)] [] = some (tx ws', []) ∧ Wd ws' (m + 1) ∧ ws.length ≤ ws'.length + 1 := by
  have sp := L_splS h (by omega)
  obtain ⟨a, ea, a0, a1⟩ := L_draw ns k (ws.length : Int) []
  obtain ⟨r, w, er, ar, hw⟩ := pick hn MM (k + 1) 30 (by omega) (by omega) rfl (by decide)
  obtain ⟨y, ey, y0, y1⟩ := L_draw ns (k + 2) 7 []
  obtain ⟨ws', e, g1, g2⟩ := L_btR (s := script ns) (k := k) (way := y) h hm h2 a0 a1 hw
  refine ⟨ws', ?_, g1, g2⟩
  have ml : (MM.map PyData.str).length = 30 := by decide
  have sk : ∀ (i : Nat) (ρ : Rho) (xs : List PyData), setSpK i ρ [] (some xs) = some ((.nx, ρ.set i (some (.loc (.list xs)))), []) := fun _ _ _ => rfl
  have ml' : MM.length = 30 := by decide
  rw [bt_go]
  simp only [ρB] at e
  simp [btM, sp, sk, ea, ml', er, ar, ey, e]
end
structure Q4 where
  x : Str
  ps : List (Str × Str)
  a : Str
  b : Str
structure Q4.Ok (q : Q4) : Prop where
  hx : q.x ∈ MM
  hp : MP q.ps
  ha : q.a ∈ MM
  hb : q.b ∈ MM
  hl : q.ps.length ≤ 12
noncomputable def lnQ (q : Q4) : PyData := lineT q.x q.ps q.a q.b
noncomputable def wdQ (q : Q4) : List Str := wds q.x q.ps (Str.ofString ":") q.a q.b
theorem Q4.Ok.wd {q : Q4} (h : q.Ok) : Wd (wdQ q) 28 := wds_ok h.hx h.hp h.ha h.hb h.hl
theorem wd_up {ws : List Str} {m n : Nat} (h : Wd ws m) (hm : m ≤ n) : Wd ws n := ⟨h.ne, h.mm, Nat.le_trans h.ln hm⟩
theorem wdQ_len (q : Q4) : 4 ≤ (wdQ q).length := by
  unfold wdQ
  rw [wds_len]
  omega
theorem lines_ex {e : FE} {ρ : Rho} : ∀ {ds : List PyData}, (∀ d ∈ ds, ∃ q : Q4, e (some (.d d) :: ρ) [] = some (.d (lnQ q), []) ∧ q.Ok) → ∃ qs : List Q4, compL fTrue e ρ ds [] = some (qs.map lnQ, []) ∧ qs.length = ds.length ∧ ∀ q ∈ qs, q.Ok
  | [], _ => ⟨[], rfl, rfl, fun q hq => by cases hq⟩
  | d :: r, h => by
    obtain ⟨q, h1, h2⟩ := h d List.mem_cons_self
    obtain ⟨qs, g1, g2, g3⟩ := lines_ex (ds := r) fun x hx => h x (List.mem_cons_of_mem _ hx)
    refine ⟨q :: qs, ?_, by simp [g2], fun z hz => ?_⟩
    · show bnd (fTrue _ []) _ = _
      simp only [fTrue, bnd_mk, if_true, h1, g1, List.map_cons]
    · rcases List.mem_cons.mp hz with y | y
      · rw [y]; exact h2
      · exact g3 z y
section
variable {ns : List Int} (hn : ns.length ≤ 63) {qs : List Q4} (hq : ∀ q ∈ qs, q.Ok) (hl : qs.length ≤ 4) (h1 : 1 ≤ qs.length)
noncomputable def ρW (s : PyData) (qs : List Q4) (bl : List (List Str)) (o4 o5 o6 o7 : Option D.W) : Rho := [some (.d s), some (.d (.list (qs.map lnQ))), some (.d (.list ((qs.map wdQ).map tx))), some (.loc (.list (bl.map tx))), o4, o5, o6, o7]
theorem gd_txs {tl : List (List Str)} (h : TL tl) (hl : tl.length ≤ 10) : Gd (.list (tl.map tx)) 1 8010 := (Gd.list (k := 0) (n := 800) fun d hd => by
    obtain ⟨ws, hw, rfl⟩ := List.mem_map.mp hd
    exact gd_tx (h ws hw)).mono (Nat.le_refl _) (by rw [List.length_map]; omega)
include hn hq hl h1 in
theorem law_turn {bl : List (List Str)} {i : Int} {o5 o6 o7 : Option D.W} (hb : TL bl) (hbl : bl.length = qs.length) (i0 : 0 ≤ i) (i1 : i ≤ 10) : ∃ bl' o5' o6' o7', lwB (ρW (script ns) qs bl (some (.d (.int i))) o5 o6 o7) [] = some ((.nx, ρW (script ns) qs bl' (some (.d (.int i))) o5' o6' o7'), []) ∧ TL bl' ∧ bl'.length = qs.length := by
  obtain ⟨a, ea, a0, a1⟩ := L_draw ns (200 + 10 * i) (qs.length : Int) []
  have han : a.toNat < qs.length := by omega
  have at1 : atI (qs.map lnQ) a = some (lnQ qs[a.toNat]) := by
    have := atI_nat (xs := qs.map lnQ) (i := a.toNat) (by simpa using han)
    rw [show ((a.toNat : Nat) : Int) = a by omega] at this
    rw [this]
    simp [List.getElem?_eq_getElem han]
  have at2 : atI ((qs.map wdQ).map tx) a = some (tx (wdQ qs[a.toNat])) := by
    have := atI_nat (xs := (qs.map wdQ).map tx) (i := a.toNat) (by simpa using han)
    rw [show ((a.toNat : Nat) : Int) = a by omega] at this
    rw [this]
    simp [List.getElem?_eq_getElem han]
  have ok := hq qs[a.toNat] (List.getElem_mem han)
  have lt : m_line_text [.d (lnQ qs[a.toNat])] [] = some (tx (wdQ qs[a.toNat]), []) := L_ltext ok.hx ok.hp ok.ha ok.hb ok.hl
  have s1 := L_same (gd_tx (wd_up ok.wd (by omega : 28 ≤ 40))) (by omega) (by omega)
  obtain ⟨v1, e1, w1, n1⟩ := L_bent hn (k := 200 + 10 * i + 1) (by omega) (by omega) ok.wd (by omega) (by have := wdQ_len qs[a.toNat]; omega)
  obtain ⟨v2, e2, w2, n2⟩ := L_bent hn (k := 200 + 10 * i + 5) (by omega) (by omega) w1 (by omega) (by have := wdQ_len qs[a.toNat]; omega)
  obtain ⟨y, ey, y0, y1⟩ := L_draw ns (200 + 10 * i + 4) 3 []
  have ix : ixN bl.length a = some a.toNat := by
    unfold ixN
    rw [if_pos a0, if_pos (by omega)]
  have b0 : -18446744073709551616 < i ∧ i < 18446744073709551616 := by omega
  have fin : ∀ v : List Str, Wd v 40 → TL (bl.set a.toNat v) ∧ m_line_by [.d (tx v)] [] = some (rdV v, []) ∧ m__law_read [.d (tx v)] [] = some (rdV v, []) ∧ m__law_same [.d (rdV v), .d (rdV v)] [] = some (.bool true, []) ∧ m__law_paper_right [.d (.list ((bl.set a.toNat v).map tx))] [] = some (.bool true, []) := fun v hv => by
    obtain ⟨r1, r2, r3⟩ := rd_ok hv
    have tl : TL (bl.set a.toNat v) := fun ws hw => (List.mem_or_eq_of_mem_set hw).elim (hb ws) fun z => by rw [z]; exact hv
    exact ⟨tl, r1, r2, L_same r3.2 (by omega) (by omega), L_paper tl (by simp; omega)⟩
  have cf : ∀ v : List Str, Wd v 40 → callFK m__law_paper_right [.loc (.list ((bl.map tx).set a.toNat (tx v)))] [] = some (.d (.bool true), []) := fun v hv => by
    have e : (bl.map tx).set a.toNat (tx v) = (bl.set a.toNat v).map tx := by rw [List.map_set]
    rw [e]
    exact callFK_ok rfl (fin v hv).2.2.2.2 rfl
  by_cases hy : y = 0
  · obtain ⟨f1, f2, f3, f4, _⟩ := fin v2 (wd_up w2 (by omega))
    have c := cf v2 (wd_up w2 (by omega))
    refine ⟨bl.set a.toNat v2, some (.d (.int (200 + 10 * i))), some (.d (.int a)), some (.d (tx v2)), ?_, f1, by simp [hbl]⟩
    simp only [List.map_map] at at2
    simp [lwB, ρW, b0, ea, at1, at2, lt, s1, e1, ey, hy, e2, putLW, putLK, ix, f2, f3, f4, c]
  · obtain ⟨f1, f2, f3, f4, _⟩ := fin v1 (wd_up w1 (by omega))
    have c := cf v1 (wd_up w1 (by omega))
    refine ⟨bl.set a.toNat v1, some (.d (.int (200 + 10 * i))), some (.d (.int a)), some (.d (tx v1)), ?_, f1, by simp [hbl]⟩
    simp only [List.map_map] at at2
    simp [lwB, ρW, b0, ea, at1, at2, lt, s1, e1, ey, hy, putLW, putLK, ix, f2, f3, f4, c]
include hn hq hl h1 in
theorem law_loop : ∀ (js : List PyData) (bl : List (List Str)) (o4 o5 o6 o7 : Option D.W), (∀ d ∈ js, ∃ i : Int, d = .int i ∧ 0 ≤ i ∧ i ≤ 10) → TL bl → bl.length = qs.length → ∃ bl' o4' o5' o6' o7', forL 4 lwB js (ρW (script ns) qs bl o4 o5 o6 o7) [] = some ((.nx, ρW (script ns) qs bl' o4' o5' o6' o7'), [])
  | [], bl, o4, o5, o6, o7, _, _, _ => ⟨bl, o4, o5, o6, o7, rfl⟩
  | d :: js, bl, o4, o5, o6, o7, h, hb, hbl => by
    obtain ⟨i, rfl, i0, i1⟩ := h d List.mem_cons_self
    obtain ⟨bl', o5', o6', o7', e, g1, g2⟩ := law_turn hn hq hl h1 (o5 := o5) (o6 := o6) (o7 := o7) hb hbl i0 i1
    have st : lwB ((ρW (script ns) qs bl o4 o5 o6 o7).set 4 (some (.d (.int i)))) [] = _ := e
    obtain ⟨b2, p4, p5, p6, p7, r⟩ := law_loop js bl' (some (.d (.int i))) o5' o6' o7' (fun d hd => h d (List.mem_cons_of_mem _ hd)) g1 g2
    exact ⟨b2, p4, p5, p6, p7, by rw [forL_nx st, r]⟩
end
theorem nums_in {n : Nat} {d : PyData} (h : d ∈ numsD 0 n) : ∃ i : Int, d = .int i ∧ 0 ≤ i ∧ i < n := by
  unfold numsD at h
  obtain ⟨i, hi, rfl⟩ := List.mem_map.mp h
  have := List.mem_range.mp hi
  exact ⟨_, rfl, by omega, by omega⟩
@[simp] theorem ev_setLC {i : Nat} {f : FE} {ρ : Rho} {T : Tp} : fSetLC i f ρ T = bnd (f ρ T) fun w T1 => setLCK i ρ T1 (view T1 w) := rfl
theorem law_math (ns : List Int) (hn : ns.length ≤ 63) : ∃ T', m_law [.d (script ns)] [] = some (.bool true, T') := by
  obtain ⟨r, e0, a0, a1⟩ := L_draw ns 0 4 []
  have rg : rngOk (1 + r) = true := by unfold rngOk; simp; omega
  obtain ⟨qs, c1, c2, c3⟩ := lines_ex (e := fCall m__law_line (fCons (fVar 1) (fCons (fBin addD (fC (.int 10)) (fBin mulD (fC (.int 30)) (fVar 0))) fNil))) (ρ := [some (.d (script ns)), none, none, none, none, none, none, none]) (ds := numsD 0 (1 + r).toNat) fun d hd => by
    obtain ⟨i, rfl, i0, i1⟩ := nums_in hd
    have b0 : -18446744073709551616 < i ∧ i < 18446744073709551616 := by omega
    obtain ⟨x, ps, a, b, el, h1, h2, h3, h4, h5⟩ := L_line hn (k := 10 + 30 * i) (by omega) (by omega)
    exact ⟨⟨x, ps, a, b⟩, by simp [b0, el, lnQ], ⟨h1, h2, h3, h4, h5⟩⟩
  have ql : qs.length = (1 + r).toNat := by rw [c2]; simp [numsD]
  have l4 : qs.length ≤ 4 := by omega
  have l1 : 1 ≤ qs.length := by omega
  have ct := compL_mapA (e := fCall m__law_text (fCons (fVar 0) fNil)) (ρ := [some (.d (script ns)), some (.d (.list (qs.map lnQ))), none, none, none, none, none, none]) (T := []) (q := lnQ) (g := fun q => tx (wdQ q)) (ds := qs) fun q hq => by
    have o := c3 q hq
    have : m__law_text [.d (lnQ q)] [] = some (tx (wdQ q), []) := L_text o.hx o.hp o.ha o.hb o.hl
    simp [this]
  have pt : m_paper_texts [.d (.list (qs.map lnQ))] [] = some (.list ((qs.map wdQ).map tx), []) := by
    have := compL_mapA (e := fCall m_line_text (fCons (fVar 0) fNil)) (ρ := [some (.d (.list (qs.map lnQ)))]) (T := []) (q := lnQ) (g := fun q => tx (wdQ q)) (ds := qs) fun q hq => by
      have o := c3 q hq
      have : m_line_text [.d (lnQ q)] [] = some (tx (wdQ q), []) := L_ltext o.hx o.hp o.ha o.hb o.hl
      simp [this]
    simp [m_paper_texts, this]
  have tl : TL (qs.map wdQ) := fun ws hw => by
    obtain ⟨q, hq, rfl⟩ := List.mem_map.mp hw
    exact wd_up (c3 q hq).wd (by omega)
  have pt0 : m_paper_texts [.d (.list [])] [] = some (.list [], []) := rfl
  have s1 := L_same (gd_txs tl (by simp; omega)) (by omega) (by omega)
  have s0 : m__law_same [.d (.list []), .d (.list [])] [] = some (.bool true, []) := L_same (Gd.list (ds := []) (k := 0) (n := 0) fun d hd => by cases hd) (by omega) (by simp)
  have p1 := L_paper tl (by simp; omega)
  have p0 : m__law_paper_right [.d (.list [])] [] = some (.bool true, []) := L_paper (tl := []) (fun ws hw => by cases hw) (by simp)
  obtain ⟨bl, o4, o5, o6, o7, lw⟩ := law_loop hn c3 l4 l1 (numsD 0 6) (qs.map wdQ) none none none none (fun d hd => by
    obtain ⟨i, rfl, i0, i1⟩ := nums_in hd
    exact ⟨i, rfl, i0, by omega⟩) tl (by simp)
  refine ⟨[], ?_⟩
  have r6 : rngOk 6 = true := by decide
  have n6 : (6 : Int).toNat = 6 := rfl
  have ct' : compL fTrue (fCall m__law_text (fCons (fVar 0) fNil)) [some (.d (script ns)), some (.d (.list (qs.map lnQ))), none, none, none, none, none, none] (qs.map lnQ) [] = some ((qs.map wdQ).map tx, []) := by
    rw [ct, List.map_map]
    rfl
  generalize htx : (qs.map wdQ).map tx = X at *
  simp only [ρW, htx] at lw
  rw [law_eq]
  simp [e0, rg, c1, ct', D.listD, pt, s1, pt0, s0, p1, p0, setLCK, r6, lw]
end G
namespace G
open PySem PySem.Spec PyProof.Rows L2 D
noncomputable def top (i : Nat) : Stmt := PySem.Challenge.pw_redo_k82_lines_as_texts.main.body.getD i (.Pass ⟨0, 0, 0, 0⟩)
noncomputable def mtop (i j : Nat) : Stmt := match top i with
  | .ClassDef _ _ _ b _ _ _ _ _ _ _ => b.getD j (.Pass ⟨0, 0, 0, 0⟩)
  | s => s
structure Bi (K : PySem.W.Frag) (mg : Str → Option Value) : Prop where
  b_ValueError : mg (Str.ofString "ValueError") = none
  b_abs : mg (Str.ofString "abs") = none
  b_all : mg (Str.ofString "all") = none
  b_bool : mg (Str.ofString "bool") = none
  b_dict : mg (Str.ofString "dict") = none
  b_enumerate : mg (Str.ofString "enumerate") = none
  b_int : mg (Str.ofString "int") = none
  b_isinstance : mg (Str.ofString "isinstance") = none
  b_len : mg (Str.ofString "len") = none
  b_list : mg (Str.ofString "list") = none
  b_min : mg (Str.ofString "min") = none
  b_range : mg (Str.ofString "range") = none
  b_repr : mg (Str.ofString "repr") = none
  b_str : mg (Str.ofString "str") = none
  b_sum : mg (Str.ofString "sum") = none
  b_tuple : mg (Str.ofString "tuple") = none
  c_FIGURES : ∃ t, mg (Str.ofString "FIGURES") = some (.str (Str.ofString "0123456789") t)
  c_LETTERS : ∃ t, mg (Str.ofString "LETTERS") = some (.str (Str.ofString "abcdefghijklmnopqrstuvwxyz") t)
  c_MOST_FIGURES : ∃ t, mg (Str.ofString "MOST_FIGURES") = some (.int 19 t)
  c_MOST_LETTERS : ∃ t, mg (Str.ofString "MOST_LETTERS") = some (.int 8 t)
  c_MOST_PARTS : ∃ t, mg (Str.ofString "MOST_PARTS") = some (.int 8 t)
  c_MOST_READS : ∃ t, mg (Str.ofString "MOST_READS") = some (.int 12 t)
  c_MOST_ROWS : ∃ t, mg (Str.ofString "MOST_ROWS") = some (.int 4 t)
  c_MOST_SIGNS : ∃ t, mg (Str.ofString "MOST_SIGNS") = some (.int 20 t)
  c_MOST_VALUES : ∃ t, mg (Str.ofString "MOST_VALUES") = some (.int 40 t)
  c_TEXT_SIGNS : ∃ t, mg (Str.ofString "TEXT_SIGNS") = some (.str (Str.ofString "abcdefghijklmnopqrstuvwxyz0123456789-") t)
  xc : ∃ C R A1 A2 A3 A4 A5 A6, XE.XB K C R "at" [A1, A2, A3, A4, A5, A6] ∧ mg (Str.ofString "BadLine") = some (.ref C) ∧ mg (Str.ofString "RedoError") = some (.ref R) ∧ mg (Str.ofString "BadPaper") = some (.ref A1) ∧ mg (Str.ofString "BadWord") = some (.ref A2) ∧ mg (Str.ofString "NoLine") = some (.ref A3) ∧ mg (Str.ofString "NoPaper") = some (.ref A4) ∧ mg (Str.ofString "NoRow") = some (.ref A5) ∧ mg (Str.ofString "NotMade") = some (.ref A6) ∧ DfM K C (Str.ofString "__init__") (Str.ofString "BadLine.__init__") (mtop 3 0)
  xl : ∃ f fd, Fun K (Str.ofString "paper_by") (Str.ofString "paper_by") (top 45) f fd ∧ mg (Str.ofString "paper_by") = some (.ref f)
theorem sc_is_whole : FnScope [Str.ofString "thing"] [Str.ofString "thing"] (defScope (top 17)) := ⟨rfl, rfl, rfl, by decide +kernel, rfl, by decide +kernel, by decide +kernel⟩
theorem ok_is_whole {P : Program} {w : World} {K : PySem.W.Frag} {mg : Str → Option Value} {base : Heap} {f : Addr} {fd : FuncData} (B : Bi K mg) (F : Fun K (Str.ofString "is_whole") (Str.ofString "is_whole") (top 17) f fd)  : FnOk P w K mg base CX0 1 f fd [Str.ofString "thing"] (spM K (List.length [Str.ofString "thing"]) (m_is_whole)) :=
  dfn F sc_is_whole fun cdv A outer s H E hr => (dss_one (ds_ret (de_and (de_isi .int B.b_isinstance (de_var 0) B.b_int boot_int) (de_one (de_not (de_isi .bl B.b_isinstance (de_var 0) B.b_bool boot_bool))))))
theorem sc_has_only : FnScope [Str.ofString "text", Str.ofString "signs"] [Str.ofString "text", Str.ofString "signs"] (defScope (top 18)) := ⟨rfl, rfl, rfl, by decide +kernel, rfl, by decide +kernel, by decide +kernel⟩
theorem ok_has_only {P : Program} {w : World} {K : PySem.W.Frag} {mg : Str → Option Value} {base : Heap} {f : Addr} {fd : FuncData} (B : Bi K mg) (F : Fun K (Str.ofString "has_only") (Str.ofString "has_only") (top 18) f fd)  : FnOk P w K mg base CX0 1 f fd [Str.ofString "text", Str.ofString "signs"] (spM K (List.length [Str.ofString "text", Str.ofString "signs"]) (m_has_only)) :=
  dfn F sc_has_only fun cdv A outer s H E hr => (dss_one (ds_ret (de_callB c_all rfl B.b_all boot_all (da_cons (de_comp (osc := defScope (top 18)) (N := [Str.ofString "text", Str.ofString "signs"]) (N' := [Str.ofString "text", Str.ofString "signs"]) (x := (Str.ofString "sign")) ⟨rfl, by decide +kernel, by decide +kernel, rfl, by decide +kernel, by decide +kernel, by decide +kernel, by decide +kernel, rfl, by decide +kernel⟩ (di_iter (de_var 0)) (fun C s0 H0 ex => (de_cmp o_in (de_var 0) (de_var 2))) (fun C s0 H0 ex => dts_nil)) da_nil))))
theorem sc_is_name : FnScope [Str.ofString "thing"] [Str.ofString "thing"] (defScope (top 19)) := ⟨rfl, rfl, rfl, by decide +kernel, rfl, by decide +kernel, by decide +kernel⟩
theorem ok_is_name {P : Program} {w : World} {K : PySem.W.Frag} {mg : Str → Option Value} {base : Heap} {f : Addr} {fd : FuncData} (B : Bi K mg) (F : Fun K (Str.ofString "is_name") (Str.ofString "is_name") (top 19) f fd) (G_has_only : Fn P w K mg base (Str.ofString "has_only") [Str.ofString "text", Str.ofString "signs"] 1 (spM K (List.length [Str.ofString "text", Str.ofString "signs"]) m_has_only)) : FnOk P w K mg base CX0 2 f fd [Str.ofString "thing"] (spM K (List.length [Str.ofString "thing"]) (m_is_name)) :=
  dfn F sc_is_name fun cdv A outer s H E hr => (dss_one (ds_ret (de_and (de_isi .str B.b_isinstance (de_var 0) B.b_str boot_str) (de_and (de_chain o_le o_le de_int (de_callB c_len rfl B.b_len boot_len (da_cons (de_var 0) da_nil)) (de_globI rfl B.c_MOST_LETTERS)) (de_one (de_call G_has_only (hr.mono (by omega)) rfl (da_cons (de_var 0) (da_cons (de_globS rfl B.c_LETTERS) da_nil)) (len_cons (len_cons len_nil))))))))
theorem sc_is_single : FnScope [Str.ofString "thing"] [Str.ofString "thing"] (defScope (top 20)) := ⟨rfl, rfl, rfl, by decide +kernel, rfl, by decide +kernel, by decide +kernel⟩
theorem ok_is_single {P : Program} {w : World} {K : PySem.W.Frag} {mg : Str → Option Value} {base : Heap} {f : Addr} {fd : FuncData} (B : Bi K mg) (F : Fun K (Str.ofString "is_single") (Str.ofString "is_single") (top 20) f fd) (G_is_whole : Fn P w K mg base (Str.ofString "is_whole") [Str.ofString "thing"] 1 (spM K (List.length [Str.ofString "thing"]) m_is_whole)) (G_has_only : Fn P w K mg base (Str.ofString "has_only") [Str.ofString "text", Str.ofString "signs"] 1 (spM K (List.length [Str.ofString "text", Str.ofString "signs"]) m_has_only)) : FnOk P w K mg base CX0 2 f fd [Str.ofString "thing"] (spM K (List.length [Str.ofString "thing"]) (m_is_single)) :=
  dfn F sc_is_single fun cdv A outer s H E hr => (dss_cons (ds_if (dt_tru (de_call G_is_whole (hr.mono (by omega)) rfl (da_cons (de_var 0) da_nil) (len_cons len_nil))) (dss_one (ds_ret (de_cmp o_le (de_callB c_abs rfl B.b_abs boot_abs (da_cons (de_var 0) da_nil)) (de_bin o_pow de_int de_int)))) dss_nil) (dss_one (ds_ret (de_and (de_isi .str B.b_isinstance (de_var 0) B.b_str boot_str) (de_and (de_cmp o_le (de_callB c_len rfl B.b_len boot_len (da_cons (de_var 0) da_nil)) (de_globI rfl B.c_MOST_SIGNS)) (de_one (de_call G_has_only (hr.mono (by omega)) rfl (da_cons (de_var 0) (da_cons (de_globS rfl B.c_TEXT_SIGNS) da_nil)) (len_cons (len_cons len_nil)))))))))
theorem sc_is_built : FnScope [Str.ofString "thing", Str.ofString "rows_left"] [Str.ofString "thing", Str.ofString "rows_left"] (defScope (top 21)) := ⟨rfl, rfl, rfl, by decide +kernel, rfl, by decide +kernel, by decide +kernel⟩
theorem ok_is_built {P : Program} {w : World} {K : PySem.W.Frag} {mg : Str → Option Value} {base : Heap} {f : Addr} {fd : FuncData} (n : Nat) (B : Bi K mg) (F : Fun K (Str.ofString "is_built") (Str.ofString "is_built") (top 21) f fd) (G_is_single : Fn P w K mg base (Str.ofString "is_single") [Str.ofString "thing"] 2 (spM K (List.length [Str.ofString "thing"]) m_is_single)) (G_is_built : Fn P w K mg base (Str.ofString "is_built") [Str.ofString "thing", Str.ofString "rows_left"] (2 + n) (spM K (List.length [Str.ofString "thing", Str.ofString "rows_left"]) (m_is_built n))) : FnOk P w K mg base CX0 (2 + n + 1) f fd [Str.ofString "thing", Str.ofString "rows_left"] (spM K (List.length [Str.ofString "thing", Str.ofString "rows_left"]) (m_is_built (n + 1))) :=
  dfn F sc_is_built fun cdv A outer s H E hr => (dss_cons (ds_if (dt_not (dt_tru (de_isi .tup B.b_isinstance (de_var 0) B.b_tuple boot_tuple))) (dss_one (ds_ret (de_call G_is_single (hr.mono (by omega)) rfl (da_cons (de_var 0) da_nil) (len_cons len_nil)))) dss_nil) (dss_cons (ds_if (dw_pt (dw_or (dt_cmp o_eq (de_var 1) de_int) (dw_or1 (dt_cmp o_gt (de_callB c_len rfl B.b_len boot_len (da_cons (de_var 0) da_nil)) (de_globI rfl B.c_MOST_PARTS))))) (dss_one (ds_ret de_bl)) dss_nil) (dss_one (ds_ret (de_callB c_all rfl B.b_all boot_all (da_cons (de_comp (osc := defScope (top 21)) (N := [Str.ofString "thing", Str.ofString "rows_left"]) (N' := [Str.ofString "thing", Str.ofString "rows_left"]) (x := (Str.ofString "part")) ⟨rfl, by decide +kernel, by decide +kernel, rfl, by decide +kernel, by decide +kernel, by decide +kernel, by decide +kernel, rfl, by decide +kernel⟩ (di_iter (de_var 0)) (fun C s0 H0 ex => (de_call G_is_built (hr.mono (by omega)) rfl (da_cons (de_var 0) (da_cons (de_bin o_sub (de_var 2) de_int) da_nil)) (len_cons (len_cons len_nil)))) (fun C s0 H0 ex => dts_nil)) da_nil))))))
theorem sc_many_of : FnScope [Str.ofString "value"] [Str.ofString "value"] (defScope (top 23)) := ⟨rfl, rfl, rfl, by decide +kernel, rfl, by decide +kernel, by decide +kernel⟩
theorem ok_many_of {P : Program} {w : World} {K : PySem.W.Frag} {mg : Str → Option Value} {base : Heap} {f : Addr} {fd : FuncData} (n : Nat) (B : Bi K mg) (F : Fun K (Str.ofString "many_of") (Str.ofString "many_of") (top 23) f fd) (G_many_of : Fn P w K mg base (Str.ofString "many_of") [Str.ofString "value"] (0 + n) (spM K (List.length [Str.ofString "value"]) (m_many_of n))) : FnOk P w K mg base CX0 (0 + n + 1) f fd [Str.ofString "value"] (spM K (List.length [Str.ofString "value"]) (m_many_of (n + 1))) :=
  dfn F sc_many_of fun cdv A outer s H E hr => (dss_cons (ds_if (dt_not (dt_tru (de_isi .tup B.b_isinstance (de_var 0) B.b_tuple boot_tuple))) (dss_one (ds_ret de_int)) dss_nil) (dss_one (ds_ret (de_bin o_add de_int (de_callB c_sum rfl B.b_sum boot_sum (da_cons (de_comp (osc := defScope (top 23)) (N := [Str.ofString "value"]) (N' := [Str.ofString "value"]) (x := (Str.ofString "part")) ⟨rfl, by decide +kernel, by decide +kernel, rfl, by decide +kernel, by decide +kernel, by decide +kernel, by decide +kernel, rfl, by decide +kernel⟩ (di_iter (de_var 0)) (fun C s0 H0 ex => (de_call G_many_of (hr.mono (by omega)) rfl (da_cons (de_var 0) da_nil) (len_cons len_nil))) (fun C s0 H0 ex => dts_nil)) da_nil))))))
theorem sc_is_value : FnScope [Str.ofString "thing"] [Str.ofString "thing"] (defScope (top 22)) := ⟨rfl, rfl, rfl, by decide +kernel, rfl, by decide +kernel, by decide +kernel⟩
theorem ok_is_value {P : Program} {w : World} {K : PySem.W.Frag} {mg : Str → Option Value} {base : Heap} {f : Addr} {fd : FuncData} (B : Bi K mg) (F : Fun K (Str.ofString "is_value") (Str.ofString "is_value") (top 22) f fd) (G_is_built : Fn P w K mg base (Str.ofString "is_built") [Str.ofString "thing", Str.ofString "rows_left"] 27 (spM K (List.length [Str.ofString "thing", Str.ofString "rows_left"]) (m_is_built 25))) (G_many_of : Fn P w K mg base (Str.ofString "many_of") [Str.ofString "value"] 25 (spM K (List.length [Str.ofString "value"]) (m_many_of 25))) : FnOk P w K mg base CX0 28 f fd [Str.ofString "thing"] (spM K (List.length [Str.ofString "thing"]) (m_is_value)) :=
  dfn F sc_is_value fun cdv A outer s H E hr => (dss_one (ds_ret (de_and (de_call G_is_built (hr.mono (by omega)) rfl (da_cons (de_var 0) (da_cons (de_globI rfl B.c_MOST_ROWS) da_nil)) (len_cons (len_cons len_nil))) (de_one (de_cmp o_le (de_call G_many_of (hr.mono (by omega)) rfl (da_cons (de_var 0) da_nil) (len_cons len_nil)) (de_globI rfl B.c_MOST_VALUES))))))
theorem sc_is_figures : FnScope [Str.ofString "text"] [Str.ofString "text"] (defScope (top 33)) := ⟨rfl, rfl, rfl, by decide +kernel, rfl, by decide +kernel, by decide +kernel⟩
theorem ok_is_figures {P : Program} {w : World} {K : PySem.W.Frag} {mg : Str → Option Value} {base : Heap} {f : Addr} {fd : FuncData} (B : Bi K mg) (F : Fun K (Str.ofString "is_figures") (Str.ofString "is_figures") (top 33) f fd) (G_has_only : Fn P w K mg base (Str.ofString "has_only") [Str.ofString "text", Str.ofString "signs"] 1 (spM K (List.length [Str.ofString "text", Str.ofString "signs"]) m_has_only)) : FnOk P w K mg base CX0 2 f fd [Str.ofString "text"] (spM K (List.length [Str.ofString "text"]) (m_is_figures)) :=
  dfn F sc_is_figures fun cdv A outer s H E hr => (dss_cons (ds_if (dw_pt (dw_or (dt_cmp o_eq (de_var 0) de_str) (dw_or1 (dt_not (dt_tru (de_call G_has_only (hr.mono (by omega)) rfl (da_cons (de_var 0) (da_cons (de_globS rfl B.c_FIGURES) da_nil)) (len_cons (len_cons len_nil)))))))) (dss_one (ds_ret de_bl)) dss_nil) (dss_one (ds_ret (de_or (de_cmp o_eq (de_var 0) de_str) (de_one (de_not (de_starts (de_var 0) de_str)))))))
theorem sc_number_by : FnScope [Str.ofString "word", Str.ofString "figures"] [Str.ofString "word"] (defScope (top 32)) := ⟨rfl, rfl, rfl, by decide +kernel, rfl, by decide +kernel, by decide +kernel⟩
theorem ok_number_by {P : Program} {w : World} {K : PySem.W.Frag} {mg : Str → Option Value} {base : Heap} {f : Addr} {fd : FuncData} (B : Bi K mg) (F : Fun K (Str.ofString "number_by") (Str.ofString "number_by") (top 32) f fd) (G_is_figures : Fn P w K mg base (Str.ofString "is_figures") [Str.ofString "text"] 2 (spM K (List.length [Str.ofString "text"]) m_is_figures)) : FnOk P w K mg base CX0 3 f fd [Str.ofString "word"] (spM K (List.length [Str.ofString "word"]) (m_number_by)) :=
  dfn F sc_number_by fun cdv A outer s H E hr => (dss_cons (ds_set (i := 1) sc_number_by.nd (de_if (dt_tru (de_starts (de_var 0) de_str)) (de_sl (de_var 0) (dp_some de_int) dp_none) (de_var 0))) (dss_cons (ds_if (dw_pt (dw_or (dt_cmp o_eq (de_var 0) de_str) (dw_or (dt_cmp o_gt (de_callB c_len rfl B.b_len boot_len (da_cons (de_var 1) da_nil)) (de_globI rfl B.c_MOST_FIGURES)) (dw_or1 (dt_not (dt_tru (de_call G_is_figures (hr.mono (by omega)) rfl (da_cons (de_var 1) da_nil) (len_cons len_nil)))))))) (dss_one (ds_ret de_non)) dss_nil) (dss_one (ds_ret (de_callTy c_int rfl B.b_int boot_int (da_cons (de_var 0) da_nil))))))
theorem sc_single_by : FnScope [Str.ofString "word"] [Str.ofString "word"] (defScope (top 31)) := ⟨rfl, rfl, rfl, by decide +kernel, rfl, by decide +kernel, by decide +kernel⟩
theorem ok_single_by {P : Program} {w : World} {K : PySem.W.Frag} {mg : Str → Option Value} {base : Heap} {f : Addr} {fd : FuncData} (B : Bi K mg) (F : Fun K (Str.ofString "single_by") (Str.ofString "single_by") (top 31) f fd) (G_number_by : Fn P w K mg base (Str.ofString "number_by") [Str.ofString "word"] 3 (spM K (List.length [Str.ofString "word"]) m_number_by)) : FnOk P w K mg base CX0 4 f fd [Str.ofString "word"] (spM K (List.length [Str.ofString "word"]) (m_single_by)) :=
  dfn F sc_single_by fun cdv A outer s H E hr => (dss_cons (ds_if (dt_tru (de_starts (de_var 0) de_str)) (dss_one (ds_ret (de_sl (de_var 0) (dp_some de_int) dp_none))) dss_nil) (dss_one (ds_ret (de_call G_number_by (hr.mono (by omega)) rfl (da_cons (de_var 0) da_nil) (len_cons len_nil)))))
theorem sc_single_at : FnScope [Str.ofString "text", Str.ofString "at", Str.ofString "behind", Str.ofString "single"] [Str.ofString "text", Str.ofString "at"] (defScope (top 30)) := ⟨rfl, rfl, rfl, by decide +kernel, rfl, by decide +kernel, by decide +kernel⟩
theorem ok_single_at {P : Program} {w : World} {K : PySem.W.Frag} {mg : Str → Option Value} {base : Heap} {f : Addr} {fd : FuncData} (B : Bi K mg) (F : Fun K (Str.ofString "single_at") (Str.ofString "single_at") (top 30) f fd) (G_single_by : Fn P w K mg base (Str.ofString "single_by") [Str.ofString "word"] 4 (spM K (List.length [Str.ofString "word"]) m_single_by)) : FnOk P w K mg base CX0 5 f fd [Str.ofString "text", Str.ofString "at"] (spM K (List.length [Str.ofString "text", Str.ofString "at"]) (m_single_at)) :=
  dfn F sc_single_at fun cdv A outer s H E hr => (dss_cons (ds_set (i := 2) sc_single_at.nd (de_var 1)) (dss_cons (ds_while 100000 (dw_pt (dw_and (dt_cmp o_lt (de_var 2) (de_callB c_len rfl B.b_len boot_len (da_cons (de_var 0) da_nil))) (dw_and1 (dt_cmp o_notin (de_ix x_seq (de_var 0) (de_var 2)) de_str)))) (dss_one (ds_set (i := 2) sc_single_at.nd (de_bin o_add (de_var 2) de_int)))) (dss_cons (ds_set (i := 3) sc_single_at.nd (de_call G_single_by (hr.mono (by omega)) rfl (da_cons (de_sl (de_var 0) (dp_some (de_var 1)) (dp_some (de_var 2))) da_nil) (len_cons len_nil))) (dss_one (ds_ret (de_if (dt_cmp o_is (de_var 3) de_non) de_non (de_tup (da_cons (de_var 3) (da_cons (de_var 2) da_nil)))))))))
theorem sc_row_at : FnScope [Str.ofString "text", Str.ofString "at", Str.ofString "rows_left", Str.ofString "parts", Str.ofString "found", Str.ofString "sign"] [Str.ofString "text", Str.ofString "at", Str.ofString "rows_left"] (defScope (top 29)) := ⟨rfl, rfl, rfl, by decide +kernel, rfl, by decide +kernel, by decide +kernel⟩
theorem sc_value_at : FnScope [Str.ofString "text", Str.ofString "at", Str.ofString "rows_left"] [Str.ofString "text", Str.ofString "at", Str.ofString "rows_left"] (defScope (top 28)) := ⟨rfl, rfl, rfl, by decide +kernel, rfl, by decide +kernel, by decide +kernel⟩
theorem ok_row_at {P : Program} {w : World} {K : PySem.W.Frag} {mg : Str → Option Value} {base : Heap} {f : Addr} {fd : FuncData} (n : Nat) (B : Bi K mg) (F : Fun K (Str.ofString "row_at") (Str.ofString "row_at") (top 29) f fd) (G_value_at : Fn P w K mg base (Str.ofString "value_at") [Str.ofString "text", Str.ofString "at", Str.ofString "rows_left"] (5 + n) (spM K (List.length [Str.ofString "text", Str.ofString "at", Str.ofString "rows_left"]) (m_value_at n))) : FnOk P w K mg base CX0 (5 + n + 1) f fd [Str.ofString "text", Str.ofString "at", Str.ofString "rows_left"] (spM K (List.length [Str.ofString "text", Str.ofString "at", Str.ofString "rows_left"]) (m_row_at (n + 1))) :=
  dfn F sc_row_at fun cdv A outer s H E hr => (dss_cons (ds_if (dt_cmp o_eq (de_sl (de_var 0) (dp_some (de_var 1)) (dp_some (de_bin o_add (de_var 1) de_int))) de_str) (dss_one (ds_ret (de_tup (da_cons (de_tup da_nil) (da_cons (de_bin o_add (de_var 1) de_int) da_nil))))) dss_nil) (dss_cons (ds_setL (i := 3) sc_row_at.nd da_nil) (dss_one (ds_while 100000 (dt_tru de_bl) (dss_cons (ds_set (i := 4) sc_row_at.nd (de_call G_value_at (hr.mono (by omega)) rfl (da_cons (de_var 0) (da_cons (de_var 1) (da_cons (de_var 2) da_nil))) (len_cons (len_cons (len_cons len_nil))))) (dss_cons (ds_if (dt_cmp o_is (de_var 4) de_non) (dss_one (ds_ret de_non)) dss_nil) (dss_cons (ds_app (i := 3) (by exact (de_ix x_seq (de_var 4) de_int))) (dss_cons (ds_set (i := 1) sc_row_at.nd (de_bin o_add (de_ix x_seq (de_var 4) de_int) de_int)) (dss_cons (ds_set (i := 5) sc_row_at.nd (de_sl (de_var 0) (dp_some (de_ix x_seq (de_var 4) de_int)) (dp_some (de_var 1)))) (dss_cons (ds_if (dt_cmp o_eq (de_var 5) de_str) (dss_one (ds_ret (de_tup (da_cons (de_callTy c_tuple rfl B.b_tuple boot_tuple (da_cons (de_var 3) da_nil)) (da_cons (de_var 1) da_nil))))) dss_nil) (dss_one (ds_if (dt_cmp o_ne (de_var 5) de_str) (dss_one (ds_ret de_non)) dss_nil))))))))))))
theorem ok_value_at {P : Program} {w : World} {K : PySem.W.Frag} {mg : Str → Option Value} {base : Heap} {f : Addr} {fd : FuncData} (n : Nat) (B : Bi K mg) (F : Fun K (Str.ofString "value_at") (Str.ofString "value_at") (top 28) f fd) (G_single_at : Fn P w K mg base (Str.ofString "single_at") [Str.ofString "text", Str.ofString "at"] 5 (spM K (List.length [Str.ofString "text", Str.ofString "at"]) m_single_at)) (G_row_at : Fn P w K mg base (Str.ofString "row_at") [Str.ofString "text", Str.ofString "at", Str.ofString "rows_left"] (5 + n) (spM K (List.length [Str.ofString "text", Str.ofString "at", Str.ofString "rows_left"]) (m_row_at n))) : FnOk P w K mg base CX0 (5 + n + 1) f fd [Str.ofString "text", Str.ofString "at", Str.ofString "rows_left"] (spM K (List.length [Str.ofString "text", Str.ofString "at", Str.ofString "rows_left"]) (m_value_at (n + 1))) :=
  dfn F sc_value_at fun cdv A outer s H E hr => (dss_cons (ds_if (dt_cmp o_ne (de_sl (de_var 0) (dp_some (de_var 1)) (dp_some (de_bin o_add (de_var 1) de_int))) de_str) (dss_one (ds_ret (de_call G_single_at (hr.mono (by omega)) rfl (da_cons (de_var 0) (da_cons (de_var 1) da_nil)) (len_cons (len_cons len_nil))))) dss_nil) (dss_cons (ds_if (dt_cmp o_eq (de_var 2) de_int) (dss_one (ds_ret de_non)) dss_nil) (dss_one (ds_ret (de_call G_row_at (hr.mono (by omega)) rfl (da_cons (de_var 0) (da_cons (de_bin o_add (de_var 1) de_int) (da_cons (de_bin o_sub (de_var 2) de_int) da_nil))) (len_cons (len_cons (len_cons len_nil))))))))
theorem sc_value_by : FnScope [Str.ofString "text", Str.ofString "found"] [Str.ofString "text"] (defScope (top 27)) := ⟨rfl, rfl, rfl, by decide +kernel, rfl, by decide +kernel, by decide +kernel⟩
theorem ok_value_by {P : Program} {w : World} {K : PySem.W.Frag} {mg : Str → Option Value} {base : Heap} {f : Addr} {fd : FuncData} (B : Bi K mg) (F : Fun K (Str.ofString "value_by") (Str.ofString "value_by") (top 27) f fd) (G_value_at : Fn P w K mg base (Str.ofString "value_at") [Str.ofString "text", Str.ofString "at", Str.ofString "rows_left"] 30 (spM K (List.length [Str.ofString "text", Str.ofString "at", Str.ofString "rows_left"]) (m_value_at 25))) (G_is_value : Fn P w K mg base (Str.ofString "is_value") [Str.ofString "thing"] 28 (spM K (List.length [Str.ofString "thing"]) m_is_value)) : FnOk P w K mg base CX0 31 f fd [Str.ofString "text"] (spM K (List.length [Str.ofString "text"]) (m_value_by)) :=
  dfn F sc_value_by fun cdv A outer s H E hr => (dss_cons (ds_set (i := 1) sc_value_by.nd (de_call G_value_at (hr.mono (by omega)) rfl (da_cons (de_var 0) (da_cons de_int (da_cons (de_globI rfl B.c_MOST_ROWS) da_nil))) (len_cons (len_cons (len_cons len_nil))))) (dss_cons (ds_if (dw_pt (dw_or (dt_cmp o_is (de_var 1) de_non) (dw_or1 (dt_cmp o_lt (de_ix x_seq (de_var 1) de_int) (de_callB c_len rfl B.b_len boot_len (da_cons (de_var 0) da_nil)))))) (dss_one (ds_ret de_non)) dss_nil) (dss_one (ds_ret (de_if (dt_tru (de_call G_is_value (hr.mono (by omega)) rfl (da_cons (de_ix x_seq (de_var 1) de_int) da_nil) (len_cons len_nil))) (de_ix x_seq (de_var 1) de_int) de_non)))))
theorem sc_is_stamp : FnScope [Str.ofString "thing"] [Str.ofString "thing"] (defScope (top 39)) := ⟨rfl, rfl, rfl, by decide +kernel, rfl, by decide +kernel, by decide +kernel⟩
theorem ok_is_stamp {P : Program} {w : World} {K : PySem.W.Frag} {mg : Str → Option Value} {base : Heap} {f : Addr} {fd : FuncData} (B : Bi K mg) (F : Fun K (Str.ofString "is_stamp") (Str.ofString "is_stamp") (top 39) f fd) (G_value_by : Fn P w K mg base (Str.ofString "value_by") [Str.ofString "text"] 31 (spM K (List.length [Str.ofString "text"]) m_value_by)) : FnOk P w K mg base CX0 32 f fd [Str.ofString "thing"] (spM K (List.length [Str.ofString "thing"]) (m_is_stamp)) :=
  dfn F sc_is_stamp fun cdv A outer s H E hr => (dss_one (ds_ret (de_and (de_isi .str B.b_isinstance (de_var 0) B.b_str boot_str) (de_one (de_cmp o_isnot (de_call G_value_by (hr.mono (by omega)) rfl (da_cons (de_var 0) da_nil) (len_cons len_nil)) de_non)))))
theorem sc_is_read : FnScope [Str.ofString "thing"] [Str.ofString "thing"] (defScope (top 38)) := ⟨rfl, rfl, rfl, by decide +kernel, rfl, by decide +kernel, by decide +kernel⟩
theorem ok_is_read {P : Program} {w : World} {K : PySem.W.Frag} {mg : Str → Option Value} {base : Heap} {f : Addr} {fd : FuncData} (B : Bi K mg) (F : Fun K (Str.ofString "is_read") (Str.ofString "is_read") (top 38) f fd) (G_is_name : Fn P w K mg base (Str.ofString "is_name") [Str.ofString "thing"] 2 (spM K (List.length [Str.ofString "thing"]) m_is_name)) (G_is_stamp : Fn P w K mg base (Str.ofString "is_stamp") [Str.ofString "thing"] 32 (spM K (List.length [Str.ofString "thing"]) m_is_stamp)) : FnOk P w K mg base CX0 33 f fd [Str.ofString "thing"] (spM K (List.length [Str.ofString "thing"]) (m_is_read)) :=
  dfn F sc_is_read fun cdv A outer s H E hr => (dss_one (ds_ret (de_and (de_isi .tup B.b_isinstance (de_var 0) B.b_tuple boot_tuple) (de_and (de_cmp o_eq (de_callB c_len rfl B.b_len boot_len (da_cons (de_var 0) da_nil)) de_int) (de_and (de_call G_is_name (hr.mono (by omega)) rfl (da_cons (de_ix x_seq (de_var 0) de_int) da_nil) (len_cons len_nil)) (de_one (de_call G_is_stamp (hr.mono (by omega)) rfl (da_cons (de_ix x_seq (de_var 0) de_int) da_nil) (len_cons len_nil))))))))
theorem sc_are_reads : FnScope [Str.ofString "thing"] [Str.ofString "thing"] (defScope (top 37)) := ⟨rfl, rfl, rfl, by decide +kernel, rfl, by decide +kernel, by decide +kernel⟩
theorem ok_are_reads {P : Program} {w : World} {K : PySem.W.Frag} {mg : Str → Option Value} {base : Heap} {f : Addr} {fd : FuncData} (B : Bi K mg) (F : Fun K (Str.ofString "are_reads") (Str.ofString "are_reads") (top 37) f fd) (G_is_read : Fn P w K mg base (Str.ofString "is_read") [Str.ofString "thing"] 33 (spM K (List.length [Str.ofString "thing"]) m_is_read)) : FnOk P w K mg base CX0 34 f fd [Str.ofString "thing"] (spM K (List.length [Str.ofString "thing"]) (m_are_reads)) :=
  dfn F sc_are_reads fun cdv A outer s H E hr => (dss_cons (ds_if (dw_pt (dw_or (dt_not (dt_tru (de_isi .tup B.b_isinstance (de_var 0) B.b_tuple boot_tuple))) (dw_or1 (dt_cmp o_gt (de_callB c_len rfl B.b_len boot_len (da_cons (de_var 0) da_nil)) (de_globI rfl B.c_MOST_READS))))) (dss_one (ds_ret de_bl)) dss_nil) (dss_one (ds_ret (de_callB c_all rfl B.b_all boot_all (da_cons (de_comp (osc := defScope (top 37)) (N := [Str.ofString "thing"]) (N' := [Str.ofString "thing"]) (x := (Str.ofString "part")) ⟨rfl, by decide +kernel, by decide +kernel, rfl, by decide +kernel, by decide +kernel, by decide +kernel, by decide +kernel, rfl, by decide +kernel⟩ (di_iter (de_var 0)) (fun C s0 H0 ex => (de_call G_is_read (hr.mono (by omega)) rfl (da_cons (de_var 0) da_nil) (len_cons len_nil))) (fun C s0 H0 ex => dts_nil)) da_nil)))))
theorem sc_is_end : FnScope [Str.ofString "thing"] [Str.ofString "thing"] (defScope (top 40)) := ⟨rfl, rfl, rfl, by decide +kernel, rfl, by decide +kernel, by decide +kernel⟩
theorem ok_is_end {P : Program} {w : World} {K : PySem.W.Frag} {mg : Str → Option Value} {base : Heap} {f : Addr} {fd : FuncData} (B : Bi K mg) (F : Fun K (Str.ofString "is_end") (Str.ofString "is_end") (top 40) f fd) (G_is_stamp : Fn P w K mg base (Str.ofString "is_stamp") [Str.ofString "thing"] 32 (spM K (List.length [Str.ofString "thing"]) m_is_stamp)) (G_is_name : Fn P w K mg base (Str.ofString "is_name") [Str.ofString "thing"] 2 (spM K (List.length [Str.ofString "thing"]) m_is_name)) : FnOk P w K mg base CX0 33 f fd [Str.ofString "thing"] (spM K (List.length [Str.ofString "thing"]) (m_is_end)) :=
  dfn F sc_is_end fun cdv A outer s H E hr => (dss_cons (ds_if (dw_pt (dw_or (dt_not (dt_tru (de_isi .tup B.b_isinstance (de_var 0) B.b_tuple boot_tuple))) (dw_or (dt_cmp o_ne (de_callB c_len rfl B.b_len boot_len (da_cons (de_var 0) da_nil)) de_int) (dw_or1 (dt_not (dt_tru (de_isi .str B.b_isinstance (de_ix x_seq (de_var 0) de_int) B.b_str boot_str))))))) (dss_one (ds_ret de_bl)) dss_nil) (dss_cons (ds_if (dt_cmp o_eq (de_ix x_seq (de_var 0) de_int) de_str) (dss_one (ds_ret (de_call G_is_stamp (hr.mono (by omega)) rfl (da_cons (de_ix x_seq (de_var 0) de_int) da_nil) (len_cons len_nil)))) dss_nil) (dss_one (ds_ret (de_and (de_cmp o_in (de_ix x_seq (de_var 0) de_int) (de_tup (da_cons de_str (da_cons de_str da_nil)))) (de_one (de_call G_is_name (hr.mono (by omega)) rfl (da_cons (de_ix x_seq (de_var 0) de_int) da_nil) (len_cons len_nil))))))))
theorem sc_is_line : FnScope [Str.ofString "thing"] [Str.ofString "thing"] (defScope (top 36)) := ⟨rfl, rfl, rfl, by decide +kernel, rfl, by decide +kernel, by decide +kernel⟩
theorem ok_is_line {P : Program} {w : World} {K : PySem.W.Frag} {mg : Str → Option Value} {base : Heap} {f : Addr} {fd : FuncData} (B : Bi K mg) (F : Fun K (Str.ofString "is_line") (Str.ofString "is_line") (top 36) f fd) (G_is_name : Fn P w K mg base (Str.ofString "is_name") [Str.ofString "thing"] 2 (spM K (List.length [Str.ofString "thing"]) m_is_name)) (G_are_reads : Fn P w K mg base (Str.ofString "are_reads") [Str.ofString "thing"] 34 (spM K (List.length [Str.ofString "thing"]) m_are_reads)) (G_is_end : Fn P w K mg base (Str.ofString "is_end") [Str.ofString "thing"] 33 (spM K (List.length [Str.ofString "thing"]) m_is_end)) : FnOk P w K mg base CX0 35 f fd [Str.ofString "thing"] (spM K (List.length [Str.ofString "thing"]) (m_is_line)) :=
  dfn F sc_is_line fun cdv A outer s H E hr => (dss_cons (ds_if (dw_pt (dw_or (dt_not (dt_tru (de_isi .tup B.b_isinstance (de_var 0) B.b_tuple boot_tuple))) (dw_or (dt_cmp o_ne (de_callB c_len rfl B.b_len boot_len (da_cons (de_var 0) da_nil)) de_int) (dw_or1 (dt_not (dt_tru (de_call G_is_name (hr.mono (by omega)) rfl (da_cons (de_ix x_seq (de_var 0) de_int) da_nil) (len_cons len_nil)))))))) (dss_one (ds_ret de_bl)) dss_nil) (dss_one (ds_ret (de_and (de_call G_are_reads (hr.mono (by omega)) rfl (da_cons (de_ix x_seq (de_var 0) de_int) da_nil) (len_cons len_nil)) (de_one (de_call G_is_end (hr.mono (by omega)) rfl (da_cons (de_ix x_seq (de_var 0) de_int) da_nil) (len_cons len_nil)))))))
theorem sc_line_text : FnScope [Str.ofString "line", Str.ofString "words", Str.ofString "read"] [Str.ofString "line"] (defScope (top 42)) := ⟨rfl, rfl, rfl, by decide +kernel, rfl, by decide +kernel, by decide +kernel⟩
theorem ok_line_text {P : Program} {w : World} {K : PySem.W.Frag} {mg : Str → Option Value} {base : Heap} {f : Addr} {fd : FuncData} (B : Bi K mg) (F : Fun K (Str.ofString "line_text") (Str.ofString "line_text") (top 42) f fd)  : FnOk P w K mg base CX0 1 f fd [Str.ofString "line"] (spM K (List.length [Str.ofString "line"]) (m_line_text)) :=
  dfn F sc_line_text fun cdv A outer s H E hr => (dss_cons (ds_setL (i := 1) sc_line_text.nd (da_cons (de_ix x_seq (de_var 0) de_int) da_nil)) (dss_cons (ds_for (i := 2) sc_line_text.nd (di_iter (de_ix x_seq (de_var 0) de_int)) (dss_one (ds_extT (i := 1) (by exact (de_var 2))))) (dss_one (ds_ret (de_joinA de_str (de_bin o_add (de_bin o_add (de_var 1) (de_lst (da_cons de_str da_nil))) (de_callTy c_list rfl B.b_list boot_list (da_cons (de_ix x_seq (de_var 0) de_int) da_nil))))))))
theorem sc_line_by : FnScope [Str.ofString "text", Str.ofString "words", Str.ofString "reads", Str.ofString "line"] [Str.ofString "text"] (defScope (top 43)) := ⟨rfl, rfl, rfl, by decide +kernel, rfl, by decide +kernel, by decide +kernel⟩
theorem ok_line_by {P : Program} {w : World} {K : PySem.W.Frag} {mg : Str → Option Value} {base : Heap} {f : Addr} {fd : FuncData} (B : Bi K mg) (F : Fun K (Str.ofString "line_by") (Str.ofString "line_by") (top 43) f fd) (G_is_line : Fn P w K mg base (Str.ofString "is_line") [Str.ofString "thing"] 35 (spM K (List.length [Str.ofString "thing"]) m_is_line)) : FnOk P w K mg base CX0 36 f fd [Str.ofString "text"] (spM K (List.length [Str.ofString "text"]) (m_line_by)) :=
  dfn F sc_line_by fun cdv A outer s H E hr => (dss_cons (ds_set (i := 1) sc_line_by.nd (de_split (de_var 0) de_str)) (dss_cons (ds_if (dw_pt (dw_or (dt_cmp o_lt (de_callB c_len rfl B.b_len boot_len (da_cons (de_var 1) da_nil)) de_int) (dw_or (dt_cmp o_ne (de_bin o_mod (de_callB c_len rfl B.b_len boot_len (da_cons (de_var 1) da_nil)) de_int) de_int) (dw_or1 (dt_cmp o_ne (de_ix x_seq (de_var 1) (de_neg de_int)) de_str))))) (dss_one (ds_ret de_non)) dss_nil) (dss_cons (ds_set (i := 2) sc_line_by.nd (de_callTy c_tuple rfl B.b_tuple boot_tuple (da_cons (de_comp (osc := defScope (top 43)) (N := [Str.ofString "text", Str.ofString "words", Str.ofString "reads", Str.ofString "line"]) (N' := [Str.ofString "text", Str.ofString "words", Str.ofString "reads", Str.ofString "line"]) (x := (Str.ofString "k")) ⟨rfl, by decide +kernel, by decide +kernel, rfl, by decide +kernel, by decide +kernel, by decide +kernel, by decide +kernel, rfl, by decide +kernel⟩ (di_rng3 rfl B.b_range de_int (de_bin o_sub (de_callB c_len rfl B.b_len boot_len (da_cons (de_var 1) da_nil)) de_int) de_int) (fun C s0 H0 ex => (de_tup (da_cons (de_ix x_seq (de_var 2) (de_var 0)) (da_cons (de_ix x_seq (de_var 2) (de_bin o_add (de_var 0) de_int)) da_nil)))) (fun C s0 H0 ex => dts_nil)) da_nil))) (dss_cons (ds_set (i := 3) sc_line_by.nd (de_tup (da_cons (de_ix x_seq (de_var 1) de_int) (da_cons (de_var 2) (da_cons (de_tup (da_cons (de_ix x_seq (de_var 1) (de_neg de_int)) (da_cons (de_ix x_seq (de_var 1) (de_neg de_int)) da_nil))) da_nil))))) (dss_one (ds_ret (de_if (dt_tru (de_call G_is_line (hr.mono (by omega)) rfl (da_cons (de_var 3) da_nil) (len_cons len_nil))) (de_var 3) de_non)))))))
theorem sc_paper_texts : FnScope [Str.ofString "paper"] [Str.ofString "paper"] (defScope (top 44)) := ⟨rfl, rfl, rfl, by decide +kernel, rfl, by decide +kernel, by decide +kernel⟩
theorem ok_paper_texts {P : Program} {w : World} {K : PySem.W.Frag} {mg : Str → Option Value} {base : Heap} {f : Addr} {fd : FuncData} (B : Bi K mg) (F : Fun K (Str.ofString "paper_texts") (Str.ofString "paper_texts") (top 44) f fd) (G_line_text : Fn P w K mg base (Str.ofString "line_text") [Str.ofString "line"] 1 (spM K (List.length [Str.ofString "line"]) m_line_text)) : FnOk P w K mg base CX0 2 f fd [Str.ofString "paper"] (spM K (List.length [Str.ofString "paper"]) (m_paper_texts)) :=
  dfn F sc_paper_texts fun cdv A outer s H E hr => (dss_one (ds_ret (de_comp (osc := defScope (top 44)) (N := [Str.ofString "paper"]) (N' := [Str.ofString "paper"]) (x := (Str.ofString "line")) ⟨rfl, by decide +kernel, by decide +kernel, rfl, by decide +kernel, by decide +kernel, by decide +kernel, by decide +kernel, rfl, by decide +kernel⟩ (di_iter (de_var 0)) (fun C s0 H0 ex => (de_call G_line_text (hr.mono (by omega)) rfl (da_cons (de_var 0) da_nil) (len_cons len_nil))) (fun C s0 H0 ex => dts_nil))))
theorem sc__law_draw : FnScope [Str.ofString "_law_script", Str.ofString "_law_k", Str.ofString "_law_many", Str.ofString "_law_cell", Str.ofString "_law_left", Str.ofString "_law_mixed"] [Str.ofString "_law_script", Str.ofString "_law_k", Str.ofString "_law_many"] (defScope (top 47)) := ⟨rfl, rfl, rfl, by decide +kernel, rfl, by decide +kernel, by decide +kernel⟩
theorem ok__law_draw {P : Program} {w : World} {K : PySem.W.Frag} {mg : Str → Option Value} {base : Heap} {f : Addr} {fd : FuncData} (B : Bi K mg) (F : Fun K (Str.ofString "_law_draw") (Str.ofString "_law_draw") (top 47) f fd)  : FnOk P w K mg base CX0 1 f fd [Str.ofString "_law_script", Str.ofString "_law_k", Str.ofString "_law_many"] (spM K (List.length [Str.ofString "_law_script", Str.ofString "_law_k", Str.ofString "_law_many"]) (m__law_draw)) :=
  dfn F sc__law_draw fun cdv A outer s H E hr => (dss_cons (ds_set (i := 3) sc__law_draw.nd de_int) (dss_cons (ds_if (dt_cmp o_gt (de_callB c_len rfl B.b_len boot_len (da_cons (de_var 0) da_nil)) de_int) (dss_cons (ds_set (i := 3) sc__law_draw.nd (de_ix x_seq (de_var 0) (de_bin o_mod (de_var 1) (de_callB c_len rfl B.b_len boot_len (da_cons (de_var 0) da_nil))))) (dss_cons (ds_set (i := 4) sc__law_draw.nd (de_bin o_shr (de_var 3) (de_bin o_mul de_int (de_callB c_min rfl B.b_min boot_min (da_cons de_int (da_cons (de_bin o_fdiv (de_var 1) (de_callB c_len rfl B.b_len boot_len (da_cons (de_var 0) da_nil))) da_nil)))))) (dss_one (ds_if (dw_pt (dw_and (dt_cmp o_ge (de_var 3) (de_bin o_pow de_int de_int)) (dw_and1 (dt_cmp o_gt (de_var 4) de_int)))) (dss_one (ds_ret (de_bin o_mod (de_var 4) (de_var 2)))) dss_nil)))) dss_nil) (dss_cons (ds_set (i := 5) sc__law_draw.nd (de_bin o_mod (de_bin o_mul (de_bin o_add (de_bin o_add (de_bin o_add (de_bin o_mod (de_var 3) de_int) (de_bin o_mul (de_bin o_mul de_int (de_var 1)) (de_var 1))) (de_bin o_mul de_int (de_var 1))) de_int) de_int) de_int)) (dss_one (ds_ret (de_bin o_mod (de_bin o_fdiv (de_bin o_mod (de_bin o_mul (de_bin o_fdiv (de_var 5) de_int) de_int) de_int) de_int) (de_var 2)))))))
theorem sc__law_same : FnScope [Str.ofString "_law_found", Str.ofString "_law_due"] [Str.ofString "_law_found", Str.ofString "_law_due"] (defScope (top 48)) := ⟨rfl, rfl, rfl, by decide +kernel, rfl, by decide +kernel, by decide +kernel⟩
theorem ok__law_same {P : Program} {w : World} {K : PySem.W.Frag} {mg : Str → Option Value} {base : Heap} {f : Addr} {fd : FuncData} (B : Bi K mg) (F : Fun K (Str.ofString "_law_same") (Str.ofString "_law_same") (top 48) f fd)  : FnOk P w K mg base CX0 1 f fd [Str.ofString "_law_found", Str.ofString "_law_due"] (spM K (List.length [Str.ofString "_law_found", Str.ofString "_law_due"]) (m__law_same)) :=
  dfn F sc__law_same fun cdv A outer s H E hr => (dss_cons (ds_if (dt_tru (de_isi .dct B.b_isinstance (de_var 1) B.b_dict boot_dict)) (dss_one ds_none) dss_nil) (dss_one (ds_ret (de_cmp o_eq (de_repr hr B.b_repr (de_var 0)) (de_repr hr B.b_repr (de_var 1))))))
theorem sc__law_is_name : FnScope [Str.ofString "_law_word"] [Str.ofString "_law_word"] (defScope (top 49)) := ⟨rfl, rfl, rfl, by decide +kernel, rfl, by decide +kernel, by decide +kernel⟩
theorem ok__law_is_name {P : Program} {w : World} {K : PySem.W.Frag} {mg : Str → Option Value} {base : Heap} {f : Addr} {fd : FuncData} (B : Bi K mg) (F : Fun K (Str.ofString "_law_is_name") (Str.ofString "_law_is_name") (top 49) f fd)  : FnOk P w K mg base CX0 1 f fd [Str.ofString "_law_word"] (spM K (List.length [Str.ofString "_law_word"]) (m__law_is_name)) :=
  dfn F sc__law_is_name fun cdv A outer s H E hr => (dss_cons (ds_if (dt_not (dt_chain o_le o_le de_int (de_callB c_len rfl B.b_len boot_len (da_cons (de_var 0) da_nil)) de_int)) (dss_one (ds_ret de_bl)) dss_nil) (dss_one (ds_ret (de_callB c_all rfl B.b_all boot_all (da_cons (de_comp (osc := defScope (top 49)) (N := [Str.ofString "_law_word"]) (N' := [Str.ofString "_law_word"]) (x := (Str.ofString "_law_sign")) ⟨rfl, by decide +kernel, by decide +kernel, rfl, by decide +kernel, by decide +kernel, by decide +kernel, by decide +kernel, rfl, by decide +kernel⟩ (di_iter (de_var 0)) (fun C s0 H0 ex => (de_cmp o_in (de_var 0) de_str)) (fun C s0 H0 ex => dts_nil)) da_nil)))))
theorem sc__law_stamps : FnScope [] ([] : List Str) (defScope (top 50)) := ⟨rfl, rfl, rfl, by decide +kernel, rfl, by decide +kernel, by decide +kernel⟩
theorem ok__law_stamps {P : Program} {w : World} {K : PySem.W.Frag} {mg : Str → Option Value} {base : Heap} {f : Addr} {fd : FuncData} (B : Bi K mg) (F : Fun K (Str.ofString "_law_stamps") (Str.ofString "_law_stamps") (top 50) f fd)  : FnOk P w K mg base CX0 1 f fd ([] : List Str) (spM K (List.length ([] : List Str)) (m__law_stamps)) :=
  dfn F sc__law_stamps fun cdv A outer s H E hr => (dss_one (ds_ret (de_lst (da_cons de_str (da_cons de_str (da_cons de_str (da_cons de_str (da_cons de_str (da_cons de_str (da_cons de_str (da_cons de_str (da_cons de_str da_nil))))))))))))
theorem sc__law_names : FnScope [] ([] : List Str) (defScope (top 51)) := ⟨rfl, rfl, rfl, by decide +kernel, rfl, by decide +kernel, by decide +kernel⟩
theorem ok__law_names {P : Program} {w : World} {K : PySem.W.Frag} {mg : Str → Option Value} {base : Heap} {f : Addr} {fd : FuncData} (B : Bi K mg) (F : Fun K (Str.ofString "_law_names") (Str.ofString "_law_names") (top 51) f fd)  : FnOk P w K mg base CX0 1 f fd ([] : List Str) (spM K (List.length ([] : List Str)) (m__law_names)) :=
  dfn F sc__law_names fun cdv A outer s H E hr => (dss_one (ds_ret (de_lst (da_cons de_str (da_cons de_str (da_cons de_str (da_cons de_str (da_cons de_str (da_cons de_str (da_cons de_str (da_cons de_str da_nil)))))))))))
theorem sc__law_line : FnScope [Str.ofString "_law_script", Str.ofString "_law_k", Str.ofString "_law_reads", Str.ofString "_law_j", Str.ofString "_law_name", Str.ofString "_law_word", Str.ofString "_law_behind"] [Str.ofString "_law_script", Str.ofString "_law_k"] (defScope (top 52)) := ⟨rfl, rfl, rfl, by decide +kernel, rfl, by decide +kernel, by decide +kernel⟩
theorem ok__law_line {P : Program} {w : World} {K : PySem.W.Frag} {mg : Str → Option Value} {base : Heap} {f : Addr} {fd : FuncData} (B : Bi K mg) (F : Fun K (Str.ofString "_law_line") (Str.ofString "_law_line") (top 52) f fd) (G__law_draw : Fn P w K mg base (Str.ofString "_law_draw") [Str.ofString "_law_script", Str.ofString "_law_k", Str.ofString "_law_many"] 1 (spM K (List.length [Str.ofString "_law_script", Str.ofString "_law_k", Str.ofString "_law_many"]) m__law_draw)) (G__law_names : Fn P w K mg base (Str.ofString "_law_names") ([] : List Str) 1 (spM K (List.length ([] : List Str)) m__law_names)) (G__law_stamps : Fn P w K mg base (Str.ofString "_law_stamps") ([] : List Str) 1 (spM K (List.length ([] : List Str)) m__law_stamps)) : FnOk P w K mg base CX0 2 f fd [Str.ofString "_law_script", Str.ofString "_law_k"] (spM K (List.length [Str.ofString "_law_script", Str.ofString "_law_k"]) (m__law_line)) :=
  dfn F sc__law_line fun cdv A outer s H E hr => (dss_cons (ds_setL (i := 2) sc__law_line.nd da_nil) (dss_cons (ds_for (i := 3) sc__law_line.nd (di_rng1 rfl B.b_range (de_ix x_seq (de_lst (da_cons de_int (da_cons de_int (da_cons de_int (da_cons de_int (da_cons de_int (da_cons de_int da_nil))))))) (de_call G__law_draw (hr.mono (by omega)) rfl (da_cons (de_var 0) (da_cons (de_var 1) (da_cons de_int da_nil))) (len_cons (len_cons (len_cons len_nil)))))) (dss_cons (ds_set (i := 4) sc__law_line.nd (de_ix x_seq (de_call0 G__law_names (hr.mono (by omega)) rfl) (de_call G__law_draw (hr.mono (by omega)) rfl (da_cons (de_var 0) (da_cons (de_bin o_add (de_bin o_add (de_var 1) de_int) (de_bin o_mul de_int (de_var 3))) (da_cons de_int da_nil))) (len_cons (len_cons (len_cons len_nil)))))) (dss_one (ds_app (i := 2) (by exact (de_tup (da_cons (de_var 4) (da_cons (de_ix x_seq (de_call0 G__law_stamps (hr.mono (by omega)) rfl) (de_call G__law_draw (hr.mono (by omega)) rfl (da_cons (de_var 0) (da_cons (de_bin o_add (de_bin o_add (de_var 1) de_int) (de_bin o_mul de_int (de_var 3))) (da_cons de_int da_nil))) (len_cons (len_cons (len_cons len_nil))))) da_nil)))))))) (dss_cons (ds_set (i := 5) sc__law_line.nd (de_ix x_seq (de_lst (da_cons de_str (da_cons de_str (da_cons de_str da_nil)))) (de_call G__law_draw (hr.mono (by omega)) rfl (da_cons (de_var 0) (da_cons (de_bin o_add (de_var 1) de_int) (da_cons de_int da_nil))) (len_cons (len_cons (len_cons len_nil)))))) (dss_cons (ds_set (i := 6) sc__law_line.nd (de_ix x_seq (de_call0 G__law_names (hr.mono (by omega)) rfl) (de_call G__law_draw (hr.mono (by omega)) rfl (da_cons (de_var 0) (da_cons (de_bin o_add (de_var 1) de_int) (da_cons de_int da_nil))) (len_cons (len_cons (len_cons len_nil)))))) (dss_cons (ds_if (dt_cmp o_eq (de_var 5) de_str) (dss_one (ds_set (i := 6) sc__law_line.nd (de_ix x_seq (de_call0 G__law_stamps (hr.mono (by omega)) rfl) (de_call G__law_draw (hr.mono (by omega)) rfl (da_cons (de_var 0) (da_cons (de_bin o_add (de_var 1) de_int) (da_cons de_int da_nil))) (len_cons (len_cons (len_cons len_nil))))))) dss_nil) (dss_one (ds_ret (de_tup (da_cons (de_ix x_seq (de_call0 G__law_names (hr.mono (by omega)) rfl) (de_call G__law_draw (hr.mono (by omega)) rfl (da_cons (de_var 0) (da_cons (de_bin o_add (de_var 1) de_int) (da_cons de_int da_nil))) (len_cons (len_cons (len_cons len_nil))))) (da_cons (de_callTy c_tuple rfl B.b_tuple boot_tuple (da_cons (de_var 2) da_nil)) (da_cons (de_tup (da_cons (de_var 5) (da_cons (de_var 6) da_nil))) da_nil)))))))))))
theorem sc__law_text : FnScope [Str.ofString "_law_line_here", Str.ofString "_law_words", Str.ofString "_law_name", Str.ofString "_law_stamp"] [Str.ofString "_law_line_here"] (defScope (top 53)) := ⟨rfl, rfl, rfl, by decide +kernel, rfl, by decide +kernel, by decide +kernel⟩
theorem ok__law_text {P : Program} {w : World} {K : PySem.W.Frag} {mg : Str → Option Value} {base : Heap} {f : Addr} {fd : FuncData} (B : Bi K mg) (F : Fun K (Str.ofString "_law_text") (Str.ofString "_law_text") (top 53) f fd)  : FnOk P w K mg base CX0 1 f fd [Str.ofString "_law_line_here"] (spM K (List.length [Str.ofString "_law_line_here"]) (m__law_text)) :=
  dfn F sc__law_text fun cdv A outer s H E hr => (dss_cons (ds_set (i := 1) sc__law_text.nd (de_lst (da_cons (de_ix x_seq (de_var 0) de_int) da_nil))) (dss_cons (ds_forT (i := 2) (j := 3) sc__law_text.nd (di_iter (de_ix x_seq (de_var 0) de_int)) (dss_one (ds_set (i := 1) sc__law_text.nd (de_bin o_add (de_var 1) (de_lst (da_cons (de_var 2) (da_cons (de_var 3) da_nil))))))) (dss_one (ds_ret (de_joinA de_str (de_bin o_add (de_bin o_add (de_var 1) (de_lst (da_cons de_str da_nil))) (de_callTy c_list rfl B.b_list boot_list (da_cons (de_ix x_seq (de_var 0) de_int) da_nil))))))))
theorem sc__law_read : FnScope [Str.ofString "_law_text_here", Str.ofString "_law_words", Str.ofString "_law_pairs", Str.ofString "_law_word", Str.ofString "_law_behind", Str.ofString "_law_fine"] [Str.ofString "_law_text_here"] (defScope (top 54)) := ⟨rfl, rfl, rfl, by decide +kernel, rfl, by decide +kernel, by decide +kernel⟩
theorem ok__law_read {P : Program} {w : World} {K : PySem.W.Frag} {mg : Str → Option Value} {base : Heap} {f : Addr} {fd : FuncData} (B : Bi K mg) (F : Fun K (Str.ofString "_law_read") (Str.ofString "_law_read") (top 54) f fd) (G__law_is_name : Fn P w K mg base (Str.ofString "_law_is_name") [Str.ofString "_law_word"] 1 (spM K (List.length [Str.ofString "_law_word"]) m__law_is_name)) (G__law_stamps : Fn P w K mg base (Str.ofString "_law_stamps") ([] : List Str) 1 (spM K (List.length ([] : List Str)) m__law_stamps)) : FnOk P w K mg base CX0 2 f fd [Str.ofString "_law_text_here"] (spM K (List.length [Str.ofString "_law_text_here"]) (m__law_read)) :=
  dfn F sc__law_read fun cdv A outer s H E hr => (dss_cons (ds_set (i := 1) sc__law_read.nd (de_split (de_var 0) de_str)) (dss_cons (ds_if (dw_pt (dw_or (dt_cmp o_lt (de_callB c_len rfl B.b_len boot_len (da_cons (de_var 1) da_nil)) de_int) (dw_or (dt_cmp o_ne (de_ix x_seq (de_var 1) (de_neg de_int)) de_str) (dw_or (dt_cmp o_ne (de_bin o_mod (de_callB c_len rfl B.b_len boot_len (da_cons (de_var 1) da_nil)) de_int) de_int) (dw_or1 (dt_cmp o_gt (de_callB c_len rfl B.b_len boot_len (da_cons (de_var 1) da_nil)) de_int)))))) (dss_one (ds_ret de_non)) dss_nil) (dss_cons (ds_setC (i := 2) (osc := defScope (top 54)) (N := [Str.ofString "_law_text_here", Str.ofString "_law_words", Str.ofString "_law_pairs", Str.ofString "_law_word", Str.ofString "_law_behind", Str.ofString "_law_fine"]) (N' := [Str.ofString "_law_text_here", Str.ofString "_law_words", Str.ofString "_law_pairs", Str.ofString "_law_word", Str.ofString "_law_behind", Str.ofString "_law_fine"]) (x := (Str.ofString "_law_k")) ⟨rfl, by decide +kernel, by decide +kernel, rfl, by decide +kernel, by decide +kernel, by decide +kernel, by decide +kernel, rfl, by decide +kernel⟩ sc__law_read.nd (di_rng3 rfl B.b_range de_int (de_bin o_sub (de_callB c_len rfl B.b_len boot_len (da_cons (de_var 1) da_nil)) de_int) de_int) (fun C s0 H0 ex => (de_tup (da_cons (de_ix x_seq (de_var 2) (de_var 0)) (da_cons (de_ix x_seq (de_var 2) (de_bin o_add (de_var 0) de_int)) da_nil)))) (fun C s0 H0 ex => dts_nil)) (dss_cons (ds_if (dt_not (dt_tru (de_callB c_all rfl B.b_all boot_all (da_cons (de_comp2 (osc := defScope (top 54)) (N := [Str.ofString "_law_text_here", Str.ofString "_law_words", Str.ofString "_law_pairs", Str.ofString "_law_word", Str.ofString "_law_behind", Str.ofString "_law_fine"]) (N' := [Str.ofString "_law_text_here", Str.ofString "_law_words", Str.ofString "_law_pairs", Str.ofString "_law_word", Str.ofString "_law_behind", Str.ofString "_law_fine"]) (x := (Str.ofString "_law_name")) (y := (Str.ofString "_law_stamp")) ⟨rfl, by decide +kernel, by decide +kernel, by decide +kernel, by decide +kernel, by decide +kernel, by decide +kernel, by decide +kernel, rfl, by decide +kernel⟩ (di_iter (de_var 2)) (fun C s0 H0 ex => (de_and (de_call G__law_is_name (hr.mono (by omega)) rfl (da_cons (de_var 0) da_nil) (len_cons len_nil)) (de_one (de_cmp o_in (de_var 1) (de_call0 G__law_stamps (hr.mono (by omega)) rfl))))) (fun C s0 H0 ex => dts_nil)) da_nil)))) (dss_one (ds_ret de_non)) dss_nil) (dss_cons (ds_unpL (i := 3) (j := 4) sc__law_read.nd (de_sl (de_var 1) (dp_some (de_neg de_int)) dp_none)) (dss_cons (ds_set (i := 5) sc__law_read.nd (de_and (de_cmp o_in (de_var 3) (de_tup (da_cons de_str (da_cons de_str da_nil)))) (de_one (de_call G__law_is_name (hr.mono (by omega)) rfl (da_cons (de_var 4) da_nil) (len_cons len_nil))))) (dss_cons (ds_if (dt_cmp o_eq (de_var 3) de_str) (dss_one (ds_set (i := 5) sc__law_read.nd (de_cmp o_in (de_var 4) (de_call0 G__law_stamps (hr.mono (by omega)) rfl)))) dss_nil) (dss_cons (ds_if (dw_pt (dw_or (dt_not (dt_tru (de_var 5))) (dw_or1 (dt_not (dt_tru (de_call G__law_is_name (hr.mono (by omega)) rfl (da_cons (de_ix x_seq (de_var 1) de_int) da_nil) (len_cons len_nil))))))) (dss_one (ds_ret de_non)) dss_nil) (dss_one (ds_ret (de_tup (da_cons (de_ix x_seq (de_var 1) de_int) (da_cons (de_callTy c_tuple rfl B.b_tuple boot_tuple (da_cons (de_var 2) da_nil)) (da_cons (de_tup (da_cons (de_var 3) (da_cons (de_var 4) da_nil))) da_nil))))))))))))))
theorem sc__law_bent : FnScope [Str.ofString "_law_script", Str.ofString "_law_k", Str.ofString "_law_text_here", Str.ofString "_law_menu", Str.ofString "_law_words", Str.ofString "_law_at", Str.ofString "_law_word", Str.ofString "_law_way"] [Str.ofString "_law_script", Str.ofString "_law_k", Str.ofString "_law_text_here"] (defScope (top 55)) := ⟨rfl, rfl, rfl, by decide +kernel, rfl, by decide +kernel, by decide +kernel⟩
theorem ok__law_bent {P : Program} {w : World} {K : PySem.W.Frag} {mg : Str → Option Value} {base : Heap} {f : Addr} {fd : FuncData} (B : Bi K mg) (F : Fun K (Str.ofString "_law_bent") (Str.ofString "_law_bent") (top 55) f fd) (G__law_names : Fn P w K mg base (Str.ofString "_law_names") ([] : List Str) 1 (spM K (List.length ([] : List Str)) m__law_names)) (G__law_stamps : Fn P w K mg base (Str.ofString "_law_stamps") ([] : List Str) 1 (spM K (List.length ([] : List Str)) m__law_stamps)) (G__law_draw : Fn P w K mg base (Str.ofString "_law_draw") [Str.ofString "_law_script", Str.ofString "_law_k", Str.ofString "_law_many"] 1 (spM K (List.length [Str.ofString "_law_script", Str.ofString "_law_k", Str.ofString "_law_many"]) m__law_draw)) : FnOk P w K mg base CX0 2 f fd [Str.ofString "_law_script", Str.ofString "_law_k", Str.ofString "_law_text_here"] (spM K (List.length [Str.ofString "_law_script", Str.ofString "_law_k", Str.ofString "_law_text_here"]) (m__law_bent)) :=
  dfn F sc__law_bent fun cdv A outer s H E hr => (dss_cons (ds_setA (i := 3) sc__law_bent.nd (de_bin o_add (de_call0 G__law_names (hr.mono (by omega)) rfl) (de_call0 G__law_stamps (hr.mono (by omega)) rfl)) (de_lst (da_cons de_str (da_cons de_str (da_cons de_str (da_cons de_str (da_cons de_str (da_cons de_str (da_cons de_str (da_cons de_str (da_cons de_str (da_cons de_str (da_cons de_str (da_cons de_str da_nil)))))))))))))) (dss_cons (ds_app (i := 3) (by exact de_str)) (dss_cons (ds_setSp (i := 4) sc__law_bent.nd (de_var 2) de_str) (dss_cons (ds_set (i := 5) sc__law_bent.nd (de_call G__law_draw (hr.mono (by omega)) rfl (da_cons (de_var 0) (da_cons (de_var 1) (da_cons (de_callB c_len rfl B.b_len boot_len (da_cons (de_var 4) da_nil)) da_nil))) (len_cons (len_cons (len_cons len_nil))))) (dss_cons (ds_set (i := 6) sc__law_bent.nd (de_ix x_seq (de_var 3) (de_call G__law_draw (hr.mono (by omega)) rfl (da_cons (de_var 0) (da_cons (de_bin o_add (de_var 1) de_int) (da_cons (de_callB c_len rfl B.b_len boot_len (da_cons (de_var 3) da_nil)) da_nil))) (len_cons (len_cons (len_cons len_nil)))))) (dss_cons (ds_set (i := 7) sc__law_bent.nd (de_call G__law_draw (hr.mono (by omega)) rfl (da_cons (de_var 0) (da_cons (de_bin o_add (de_var 1) de_int) (da_cons de_int da_nil))) (len_cons (len_cons (len_cons len_nil))))) (dss_cons (ds_if (dt_cmp o_eq (de_var 7) de_int) (dss_one (ds_ret (de_joinA de_str (de_bin o_add (de_sl (de_var 4) dp_none (dp_some (de_var 5))) (de_sl (de_var 4) (dp_some (de_bin o_add (de_var 5) de_int)) dp_none))))) dss_nil) (dss_cons (ds_if (dt_cmp o_eq (de_var 7) de_int) (dss_one (ds_ret (de_joinA de_str (de_bin o_add (de_sl (de_var 4) dp_none (dp_some (de_bin o_add (de_var 5) de_int))) (de_sl (de_var 4) (dp_some (de_var 5)) dp_none))))) dss_nil) (dss_cons (ds_if (dt_cmp o_eq (de_var 7) de_int) (dss_cons (ds_insP (i := 4) (by exact (de_var 5)) (by exact (de_bin o_mod (de_bin o_add (de_var 5) de_int) (de_callB c_len rfl B.b_len boot_len (da_cons (de_var 4) da_nil))))) (dss_one (ds_ret (de_joinA de_str (de_var 4))))) dss_nil) (dss_cons (ds_if (dt_cmp o_eq (de_var 7) de_int) (dss_one (ds_ret (de_joinA de_str (de_bin o_add (de_bin o_add (de_sl (de_var 4) dp_none (dp_some (de_var 5))) (de_lst (da_cons (de_var 6) da_nil))) (de_sl (de_var 4) (dp_some (de_var 5)) dp_none))))) dss_nil) (dss_one (ds_ret (de_joinA de_str (de_bin o_add (de_bin o_add (de_sl (de_var 4) dp_none (dp_some (de_var 5))) (de_lst (da_cons (de_var 6) da_nil))) (de_sl (de_var 4) (dp_some (de_bin o_add (de_var 5) de_int)) dp_none)))))))))))))))
theorem sc__law_told : FnScope [Str.ofString "_law_texts", Str.ofString "_law_told_here", Str.ofString "e", Str.ofString "_law_others"] [Str.ofString "_law_texts"] (defScope (top 56)) := ⟨rfl, rfl, rfl, by decide +kernel, rfl, by decide +kernel, by decide +kernel⟩
theorem sc__law_paper_right : FnScope [Str.ofString "_law_texts", Str.ofString "_law_due", Str.ofString "_law_handed", Str.ofString "_law_found"] [Str.ofString "_law_texts"] (defScope (top 57)) := ⟨rfl, rfl, rfl, by decide +kernel, rfl, by decide +kernel, by decide +kernel⟩
theorem ok__law_paper_right {P : Program} {w : World} {K : PySem.W.Frag} {mg : Str → Option Value} {base : Heap} {f : Addr} {fd : FuncData} (B : Bi K mg) (F : Fun K (Str.ofString "_law_paper_right") (Str.ofString "_law_paper_right") (top 57) f fd) (G__law_read : Fn P w K mg base (Str.ofString "_law_read") [Str.ofString "_law_text_here"] 2 (spM K (List.length [Str.ofString "_law_text_here"]) m__law_read)) (G__law_told : Fn P w K mg base (Str.ofString "_law_told") [Str.ofString "_law_texts"] 38 (spM K (List.length [Str.ofString "_law_texts"]) m__law_told)) (G__law_same : Fn P w K mg base (Str.ofString "_law_same") [Str.ofString "_law_found", Str.ofString "_law_due"] 1 (spM K (List.length [Str.ofString "_law_found", Str.ofString "_law_due"]) m__law_same)) : FnOk P w K mg base CX0 39 f fd [Str.ofString "_law_texts"] (spM K (List.length [Str.ofString "_law_texts"]) (m__law_paper_right)) :=
  dfn F sc__law_paper_right fun cdv A outer s H E hr => (dss_cons (ds_setC (i := 1) (osc := defScope (top 57)) (N := [Str.ofString "_law_texts", Str.ofString "_law_due", Str.ofString "_law_handed", Str.ofString "_law_found"]) (N' := [Str.ofString "_law_texts", Str.ofString "_law_due", Str.ofString "_law_handed", Str.ofString "_law_found"]) (x := (Str.ofString "_law_text_here")) ⟨rfl, by decide +kernel, by decide +kernel, rfl, by decide +kernel, by decide +kernel, by decide +kernel, by decide +kernel, rfl, by decide +kernel⟩ sc__law_paper_right.nd (di_iter (de_var 0)) (fun C s0 H0 ex => (de_call G__law_read (hr.mono (by omega)) rfl (da_cons (de_var 0) da_nil) (len_cons len_nil))) (fun C s0 H0 ex => dts_nil)) (dss_cons (ds_set (i := 2) sc__law_paper_right.nd (de_callTy c_list rfl B.b_list boot_list (da_cons (de_var 0) da_nil))) (dss_cons (ds_set (i := 3) sc__law_paper_right.nd (de_call G__law_told (hr.mono (by omega)) rfl (da_cons (de_var 2) da_nil) (len_cons len_nil))) (dss_cons (ds_if (dt_cmp (o_neG hr) (de_var 2) (de_var 0)) (dss_one (ds_ret de_bl)) dss_nil) (dss_cons (ds_if (dt_cmp (o_inGM hr) de_non (de_var 1)) (dss_one (ds_ret (de_call G__law_same (hr.mono (by omega)) rfl (da_cons (de_var 3) (da_cons (de_tup (da_cons (de_indexG hr (de_var 1) de_non) (da_cons (de_tup (da_cons de_bl (da_cons de_bl da_nil))) da_nil))) da_nil)) (len_cons (len_cons len_nil))))) dss_nil) (dss_one (ds_ret (de_call G__law_same (hr.mono (by omega)) rfl (da_cons (de_var 3) (da_cons (de_tup (da_cons (de_var 1) (da_cons (de_tup da_nil) da_nil))) da_nil)) (len_cons (len_cons len_nil))))))))))
theorem sc_law : FnScope [Str.ofString "_law_script", Str.ofString "_law_lines", Str.ofString "_law_texts", Str.ofString "_law_bent_here", Str.ofString "_law_number", Str.ofString "_law_k", Str.ofString "_law_at", Str.ofString "_law_text_here"] [Str.ofString "_law_script"] (defScope (top 58)) := ⟨rfl, rfl, rfl, by decide +kernel, rfl, by decide +kernel, by decide +kernel⟩
theorem ok_law {P : Program} {w : World} {K : PySem.W.Frag} {mg : Str → Option Value} {base : Heap} {f : Addr} {fd : FuncData} (B : Bi K mg) (F : Fun K (Str.ofString "law") (Str.ofString "law") (top 58) f fd) (G__law_draw : Fn P w K mg base (Str.ofString "_law_draw") [Str.ofString "_law_script", Str.ofString "_law_k", Str.ofString "_law_many"] 1 (spM K (List.length [Str.ofString "_law_script", Str.ofString "_law_k", Str.ofString "_law_many"]) m__law_draw)) (G__law_line : Fn P w K mg base (Str.ofString "_law_line") [Str.ofString "_law_script", Str.ofString "_law_k"] 2 (spM K (List.length [Str.ofString "_law_script", Str.ofString "_law_k"]) m__law_line)) (G__law_text : Fn P w K mg base (Str.ofString "_law_text") [Str.ofString "_law_line_here"] 1 (spM K (List.length [Str.ofString "_law_line_here"]) m__law_text)) (G_paper_texts : Fn P w K mg base (Str.ofString "paper_texts") [Str.ofString "paper"] 2 (spM K (List.length [Str.ofString "paper"]) m_paper_texts)) (G__law_same : Fn P w K mg base (Str.ofString "_law_same") [Str.ofString "_law_found", Str.ofString "_law_due"] 1 (spM K (List.length [Str.ofString "_law_found", Str.ofString "_law_due"]) m__law_same)) (G__law_paper_right : Fn P w K mg base (Str.ofString "_law_paper_right") [Str.ofString "_law_texts"] 39 (spM K (List.length [Str.ofString "_law_texts"]) m__law_paper_right)) (G_line_text : Fn P w K mg base (Str.ofString "line_text") [Str.ofString "line"] 1 (spM K (List.length [Str.ofString "line"]) m_line_text)) (G__law_bent : Fn P w K mg base (Str.ofString "_law_bent") [Str.ofString "_law_script", Str.ofString "_law_k", Str.ofString "_law_text_here"] 2 (spM K (List.length [Str.ofString "_law_script", Str.ofString "_law_k", Str.ofString "_law_text_here"]) m__law_bent)) (G__law_read : Fn P w K mg base (Str.ofString "_law_read") [Str.ofString "_law_text_here"] 2 (spM K (List.length [Str.ofString "_law_text_here"]) m__law_read)) (G_line_by : Fn P w K mg base (Str.ofString "line_by") [Str.ofString "text"] 36 (spM K (List.length [Str.ofString "text"]) m_line_by)) : FnOk P w K mg base CX0 40 f fd [Str.ofString "_law_script"] (spM K (List.length [Str.ofString "_law_script"]) (m_law)) :=
  dfn F sc_law fun cdv A outer s H E hr => (dss_cons (ds_setC (i := 1) (osc := defScope (top 58)) (N := [Str.ofString "_law_script", Str.ofString "_law_lines", Str.ofString "_law_texts", Str.ofString "_law_bent_here", Str.ofString "_law_number", Str.ofString "_law_k", Str.ofString "_law_at", Str.ofString "_law_text_here"]) (N' := [Str.ofString "_law_script", Str.ofString "_law_lines", Str.ofString "_law_texts", Str.ofString "_law_bent_here", Str.ofString "_law_number", Str.ofString "_law_k", Str.ofString "_law_at", Str.ofString "_law_text_here"]) (x := (Str.ofString "_law_j")) ⟨rfl, by decide +kernel, by decide +kernel, rfl, by decide +kernel, by decide +kernel, by decide +kernel, by decide +kernel, rfl, by decide +kernel⟩ sc_law.nd (di_rng1 rfl B.b_range (de_bin o_add de_int (de_call G__law_draw (hr.mono (by omega)) rfl (da_cons (de_var 0) (da_cons de_int (da_cons de_int da_nil))) (len_cons (len_cons (len_cons len_nil)))))) (fun C s0 H0 ex => (de_call G__law_line (hr.mono (by omega)) rfl (da_cons (de_var 1) (da_cons (de_bin o_add de_int (de_bin o_mul de_int (de_var 0))) da_nil)) (len_cons (len_cons len_nil)))) (fun C s0 H0 ex => dts_nil)) (dss_cons (ds_setC (i := 2) (osc := defScope (top 58)) (N := [Str.ofString "_law_script", Str.ofString "_law_lines", Str.ofString "_law_texts", Str.ofString "_law_bent_here", Str.ofString "_law_number", Str.ofString "_law_k", Str.ofString "_law_at", Str.ofString "_law_text_here"]) (N' := [Str.ofString "_law_script", Str.ofString "_law_lines", Str.ofString "_law_texts", Str.ofString "_law_bent_here", Str.ofString "_law_number", Str.ofString "_law_k", Str.ofString "_law_at", Str.ofString "_law_text_here"]) (x := (Str.ofString "_law_line_here")) ⟨rfl, by decide +kernel, by decide +kernel, rfl, by decide +kernel, by decide +kernel, by decide +kernel, by decide +kernel, rfl, by decide +kernel⟩ sc_law.nd (di_iter (de_var 1)) (fun C s0 H0 ex => (de_call G__law_text (hr.mono (by omega)) rfl (da_cons (de_var 0) da_nil) (len_cons len_nil))) (fun C s0 H0 ex => dts_nil)) (dss_cons (ds_if (dw_pt (dw_or (dt_not (dt_tru (de_call G__law_same (hr.mono (by omega)) rfl (da_cons (de_call G_paper_texts (hr.mono (by omega)) rfl (da_cons (de_callTy c_list rfl B.b_list boot_list (da_cons (de_var 1) da_nil)) da_nil) (len_cons len_nil)) (da_cons (de_var 2) da_nil)) (len_cons (len_cons len_nil))))) (dw_or1 (dt_not (dt_tru (de_call G__law_same (hr.mono (by omega)) rfl (da_cons (de_call G_paper_texts (hr.mono (by omega)) rfl (da_cons (de_lst da_nil) da_nil) (len_cons len_nil)) (da_cons (de_lst da_nil) da_nil)) (len_cons (len_cons len_nil)))))))) (dss_one (ds_ret de_bl)) dss_nil) (dss_cons (ds_if (dw_pt (dw_or (dt_not (dt_tru (de_call G__law_paper_right (hr.mono (by omega)) rfl (da_cons (de_var 2) da_nil) (len_cons len_nil)))) (dw_or1 (dt_not (dt_tru (de_call G__law_paper_right (hr.mono (by omega)) rfl (da_cons (de_lst da_nil) da_nil) (len_cons len_nil))))))) (dss_one (ds_ret de_bl)) dss_nil) (dss_cons (ds_setLC (i := 3) B.b_list sc_law.nd (de_var 2)) (dss_cons (ds_for (i := 4) sc_law.nd (di_rng1 rfl B.b_range de_int) (dss_cons (ds_set (i := 5) sc_law.nd (de_bin o_add de_int (de_bin o_mul de_int (de_var 4)))) (dss_cons (ds_set (i := 6) sc_law.nd (de_call G__law_draw (hr.mono (by omega)) rfl (da_cons (de_var 0) (da_cons (de_var 5) (da_cons (de_callB c_len rfl B.b_len boot_len (da_cons (de_var 2) da_nil)) da_nil))) (len_cons (len_cons (len_cons len_nil))))) (dss_cons (ds_if (dt_not (dt_tru (de_call G__law_same (hr.mono (by omega)) rfl (da_cons (de_call G_line_text (hr.mono (by omega)) rfl (da_cons (de_ix x_seq (de_var 1) (de_var 6)) da_nil) (len_cons len_nil)) (da_cons (de_ix x_seq (de_var 2) (de_var 6)) da_nil)) (len_cons (len_cons len_nil))))) (dss_one (ds_ret de_bl)) dss_nil) (dss_cons (ds_set (i := 7) sc_law.nd (de_call G__law_bent (hr.mono (by omega)) rfl (da_cons (de_var 0) (da_cons (de_bin o_add (de_var 5) de_int) (da_cons (de_ix x_seq (de_var 2) (de_var 6)) da_nil))) (len_cons (len_cons (len_cons len_nil))))) (dss_cons (ds_if (dt_cmp o_eq (de_call G__law_draw (hr.mono (by omega)) rfl (da_cons (de_var 0) (da_cons (de_bin o_add (de_var 5) de_int) (da_cons de_int da_nil))) (len_cons (len_cons (len_cons len_nil)))) de_int) (dss_one (ds_set (i := 7) sc_law.nd (de_call G__law_bent (hr.mono (by omega)) rfl (da_cons (de_var 0) (da_cons (de_bin o_add (de_var 5) de_int) (da_cons (de_var 7) da_nil))) (len_cons (len_cons (len_cons len_nil)))))) dss_nil) (dss_cons (ds_putL (i := 3) (de_var 6) (de_var 7)) (dss_one (ds_if (dw_pt (dw_or (dt_not (dt_tru (de_call G__law_same (hr.mono (by omega)) rfl (da_cons (de_call G_line_by (hr.mono (by omega)) rfl (da_cons (de_var 7) da_nil) (len_cons len_nil)) (da_cons (de_call G__law_read (hr.mono (by omega)) rfl (da_cons (de_var 7) da_nil) (len_cons len_nil)) da_nil)) (len_cons (len_cons len_nil))))) (dw_or1 (dt_not (dt_tru (de_callF G__law_paper_right (hr.mono (by omega)) rfl (da_cons (de_var 3) da_nil) (len_cons len_nil))))))) (dss_one (ds_ret de_bl)) dss_nil))))))))) (dss_one (ds_ret de_bl))))))))
end G
namespace G
open PySem PySem.Spec PyProof.Rows L2 D
theorem sc_ini : FnScope [Str.ofString "self", Str.ofString "at"] [Str.ofString "self", Str.ofString "at"] (defScope (mtop 3 0)) := ⟨rfl, rfl, rfl, by decide +kernel, rfl, by decide +kernel, by decide +kernel⟩
noncomputable def z1 : Str := Str.ofString "line "
noncomputable def z2 : Str := Str.ofString " can not stand where it does"
theorem ok_ini {P : Program} {w : World} {K : PySem.W.Frag} {mg : Str → Option Value} {base : Heap} {f : Addr} {fd : FuncData} {C R : Addr} {Ds : List Addr} (x : XE.XB K C R "at" Ds) (mR : mg (Str.ofString "RedoError") = some (.ref R)) (F : Fun K (Str.ofString "__init__") (Str.ofString "BadLine.__init__") (mtop 3 0) f fd) :
    FnOk P w K mg base CX0 1 f fd [Str.ofString "self", Str.ofString "at"] (XE.spG (XE.numV z1 z2) C "at") := by
  refine F.ok sc_ini (fun vs H Q E h => ?_) (fun cdv A outer s H vs Q E hr h => ?_)
  · obtain ⟨a, y, rfl, _⟩ := h
    rfl
  · exact ⟨_, pss_cons (ps_expr (XE.pe_ini x.c x.r x.ri rfl mR x.rd x.fc (pv 0) (XE.pe_fsI (i := 1) (z1 := z1) (z2 := z2) (pv 1)))) (pss_one (XE.ps_xf x.c x.sa x.nn (pv 0) (pv 1))), XE.iniG_read h⟩
theorem xini {P : Program} {w : World} {K : PySem.W.Frag} {mg : Str → Option Value} {base : Heap} {C R : Addr} {Ds : List Addr} (x : XE.XB K C R "at" Ds) (mR : mg (Str.ofString "RedoError") = some (.ref R)) (d : DfM K C (Str.ofString "__init__") (Str.ofString "BadLine.__init__") (mtop 3 0)) : XE.XIniG (XE.numV z1 z2) P w K mg base C R "at" 1 := by
  obtain ⟨f, oc, od, an, sl, kV, dc, pm, cd, ct, a, l, c, kp, fn⟩ := d.ex
  have F := fun_mk (st := mtop 3 0) l c kp
  exact ⟨⟨f, _, _, ok_ini x mR F, F.binds (ps := [Str.ofString "self", Str.ofString "at"]) (fun _ _ _ _ _ _ us hl => match us, hl with | [_, _], _ => rfl), a, fn⟩, x.c, x.r, x.ri, x.kp⟩
theorem num_fit : ∀ n : Nat, n < 1001 → z1.length + (Str.ofString (toString (n : Int))).length + z2.length ≤ 1000 := by decide +kernel
theorem numV_ok {n : Nat} (h : n < 1001) : XE.numV z1 z2 (.int (n : Int)) := ⟨n, rfl, by
  rw [Int.natAbs_natCast]
  by_cases z : n = 0
  · subst z; decide
  · exact Nat.lt_of_lt_of_le ((Nat.log2_lt (k := 10) z).mpr (by omega)) (by decide), Nat.le_trans (num_fit n h) (by decide)⟩
theorem sc_paper_by : FnScope [Str.ofString "texts", Str.ofString "paper", Str.ofString "at", Str.ofString "text", Str.ofString "line"] [Str.ofString "texts"] (defScope (top 45)) := ⟨rfl, rfl, rfl, by decide +kernel, rfl, by decide +kernel, by decide +kernel⟩
noncomputable def ρP (tx : List PyData) (acc : List PyData) (o2 o3 o4 : Option D.W) : Rho := [some (.d (.list tx)), some (.loc (.list acc)), o2, o3, o4]
theorem okx_paper_by {P : Program} {w : World} {K : PySem.W.Frag} {mg : Str → Option Value} {base : Heap} {f : Addr} {fd : FuncData} {C R : Addr} (B : Bi K mg) (F : Fun K (Str.ofString "paper_by") (Str.ofString "paper_by") (top 45) f fd) (G_line_by : Fn P w K mg base (Str.ofString "line_by") [Str.ofString "text"] 36 (spM K (List.length [Str.ofString "text"]) m_line_by))
    (XI : XE.XIniG (XE.numV z1 z2) P w K mg base C R "at" 1) (mC : mg (Str.ofString "BadLine") = some (.ref C)) : FnOk P w K mg base (XE.CXx P w) 37 f fd [Str.ofString "texts"] (XE.spB K 1 C "at" x_paper) := by
  refine XE.okX F sc_paper_by (fun vs H Q E h => ?_) (fun cdv A outer s H vs Q E hr h => ?_)
  · obtain ⟨O, ts, T, ws, x, T', hc, rw', hl, _⟩ := h
    exact (Paired.length rw').trans hl
  · obtain ⟨O, ts, T, ws, r, T', hc, rw', hl, hn, e, q1, q2⟩ := h
    refine ⟨_, pss_cons (DS.pe (ds_setL (i := 1) sc_paper_by.nd da_nil)) (pss_cons (ps_for PassesOwn.leaving rfl (pi_enum (ta := tCons (lift K (fVar 0)) tNil) rfl B.b_enumerate (pa_cons (DE.pe (de_var 0)) pa_nil) rfl) (pg_tup rfl (pgs_cons (pg_name (i := 2) sc_paper_by.nd rfl (.inl rfl) (.inl rfl)) (pgs_cons (pg_name (i := 3) sc_paper_by.nd rfl (.inl rfl) (.inl rfl)) pgs_nil)))
      (pss_cons (DS.pe (ds_set (i := 4) sc_paper_by.nd (de_call G_line_by (hr.mono (by omega)) rfl (da_cons (de_var 3) da_nil) (len_cons len_nil)))) (pss_cons (ps_if (DT.pe (dt_cmp o_is (de_var 4) de_non)) (pss_one (XE.ps_raise XI.c (XE.pe_xmkG XI (hr.mono (by omega)) rfl mC (DE.pe (de_var 2))))) pss_nil) (pss_one (DS.pe (ds_app (i := 1) (de_var 4)))))))
      (pss_one (DS.pe (ds_ret (de_var 1))))), ?_⟩
    have rs := XE.rs_start (N := [Str.ofString "texts", Str.ofString "paper", Str.ofString "at", Str.ofString "text", Str.ofString "line"]) hc rw' hn
    unfold x_paper at e
    split at e
    · rename_i tx
      split at e
      · rename_i hlen
        refine ⟨O, H, [], ts, O, _, T, .nx, ρP tx [] none none none, T, rs, rfl, fun O1 σ1 H1 rs1 => ?_⟩
        refine ⟨O1, ts, _, T, .d (.list tx), T, rs1.hc, rs1.re, rfl, fun v2 H2 s2 hc2 r2 => ?_⟩
        have rs2 := rs1.step s2 hc2
        cases (show Rep K O1 H2 v2 (.list tx) from r2) with
        | @lst la vx _ t rx =>
        have lx := rx.length
        refine ⟨la, vx, rfl, t.sq, fun zx => ⟨fun n m σ3 H3 => m = tx.length - n ∧ n ≤ tx.length ∧ ∃ O' acc o2 o3 o4 Tk, RS K O H ((O1, H2) :: []) ts O' H3 σ3 (ρP tx acc o2 o3 o4) Tk ∧ ppL (tx.drop n) n acc Tk = some (r, T'), ⟨_, rfl, Nat.zero_le _, O1, [], none, none, none, T, rs2.more, e⟩, ?_⟩⟩
        rintro n m σ3 H3 ⟨rfl, hk, O', acc, o2, o3, o4, Tk, rs3, ek⟩
        have le := rs3.frs _ List.mem_cons_self
        have tx3 := (t.mono le).sq
        by_cases hlt : n < tx.length
        · refine .inr ⟨⟨vx, tx3, by omega⟩, fun σ3 H3 => ∃ O' acc o2 o3 o4 Tk, RS K O H ((O1, H2) :: []) ts O' H3 σ3 (ρP tx acc o2 o3 o4) Tk ∧ ppL (tx.drop (n + 1)) (n + 1) acc Tk = some (r, T'), fun σ3 H3 nn => ⟨tx.length - (n + 1), by omega, rfl, hlt, nn⟩, fun v H4 yy => ?_⟩
          obtain ⟨p, v', hpn, kx, rfl, rfl⟩ := yy
          obtain ⟨d1, hd1, rd1⟩ := rx.get (kx vx tx3)
          have hdx : tx.drop n = d1 :: tx.drop (n + 1) := by rw [List.drop_eq_getElem_cons hlt, (List.getElem?_eq_some_iff.mp hd1).2]
          rw [hdx] at ek
          obtain ⟨l, T1, e3, ek⟩ := bnd_of ek
          have rs4 := rs3.step (.new hpn (.tup [.int n, v'])) (rs3.hc.new hpn _)
          have le2 := le.trans (rs3.hc.leNew hpn (.tup [.int n, v']))
          have rs5 := (rs4.set (i := 2) (v := .int n) (w := .d (.int (n : Int))) (.int _) (fun _ z => nomatch z)).set (i := 3) (w := .d d1) (Rep.mono le2 rd1) (fun _ z => nomatch z)
          refine ⟨p, _, rfl, SqT.of upd_same, rfl, _, _, rfl, _, _, rfl, rfl, ?_⟩
          have es : fSet 4 (fCall m_line_by (fCons (fVar 3) fNil)) (ρP tx acc (some (.d (.int (n : Int)))) (some (.d d1)) o4) Tk = some ((.nx, ρP tx acc (some (.d (.int (n : Int)))) (some (.d d1)) (some (.d l))), T1) := by
            show bnd (bnd (m_line_by [.d d1] Tk) _) _ = _
            rw [e3]
            rfl
          refine ⟨O, H, (O1, H2) :: [], ts, O', _, Tk, .nx, ρP tx acc (some (.d (.int (n : Int)))) (some (.d d1)) (some (.d l)), T1, rs5, es, fun O6 σ6 H6 rs6 => ?_⟩
          have et : fTst (fBin isD (fVar 4) (fC .none)) (ρP tx acc (some (.d (.int (n : Int)))) (some (.d d1)) (some (.d l))) T1 = some (isNone l, T1) := by cases l <;> rfl
          refine ⟨O6, ts, _, T1, isNone l, T1, rs6.hc, rs6.re, et, fun H7 s7 hc7 => ?_⟩
          have rs7 := rs6.step s7 hc7
          cases hnl : isNone l with
          | true =>
            rw [hnl, if_pos rfl] at ek
            cases ek
            exact iteT (XE.raise_readI (fe := fVar 2) rs7 rfl (numV_ok (by omega)) (q2 n rfl))
          | false =>
            rw [hnl, if_neg Bool.false_ne_true] at ek
            split at ek
            · rename_i hacc
              refine iteF ?_
              have ea : fApp 1 (fVar 4) (ρP tx acc (some (.d (.int (n : Int)))) (some (.d d1)) (some (.d l))) T1 = some ((.nx, ρP tx (acc ++ [l]) (some (.d (.int (n : Int)))) (some (.d d1)) (some (.d l))), T1) := by
                show (if acc.length < sizeLine then _ else none) = _
                rw [if_pos (Nat.lt_of_lt_of_le hacc (by decide))]
                rfl
              exact ⟨O, H, (O1, H2) :: [], ts, O6, _, T1, .nx, _, T1, rs7, ea, fun O8 σ8 H8 rs8 => ⟨O8, acc ++ [l], _, _, _, T1, rs8, ek⟩⟩
            · cases ek
        · have en : n = tx.length := by omega
          rw [en, List.drop_eq_nil_of_le (Nat.le_refl _)] at ek
          cases ek
          refine .inl ⟨⟨vx, tx3, by omega⟩, ?_⟩
          exact ⟨O, H, [], ts, O', _, _, .rt (.list acc), _, _, rs3.less, rfl, fun v H' s' hc' r' => q1 acc rfl v H' s' hc' r'⟩
      · cases e
    · cases e
theorem ok__law_told {P : Program} {w : World} {K : PySem.W.Frag} {mg : Str → Option Value} {base : Heap} {f : Addr} {fd : FuncData} (B : Bi K mg) (F : Fun K (Str.ofString "_law_told") (Str.ofString "_law_told") (top 56) f fd) (G_line_by : Fn P w K mg base (Str.ofString "line_by") [Str.ofString "text"] 36 (spM K (List.length [Str.ofString "text"]) m_line_by)) : FnOk P w K mg base CX0 38 f fd [Str.ofString "_law_texts"] (spM K (List.length [Str.ofString "_law_texts"]) (m__law_told)) := by
  obtain ⟨C, R, A1, A2, A3, A4, A5, A6, x, mC, mR, m1, m2, m3, m4, m5, m6, di⟩ := B.xc
  obtain ⟨fl, fdl, Fl, ml⟩ := B.xl
  have XI : XE.XIniG (XE.numV z1 z2) P w K mg base C R "at" 1 := xini x mR di
  have FL := okx_paper_by B Fl G_line_by XI mC
  have BL : L2.Binds K fdl [Str.ofString "texts"] [] := Fl.binds (fun _ _ _ _ _ _ us hl => match us, hl with | [_], _ => rfl)
  refine F.ok sc__law_told (fun vs H Q E h => ?_) (fun cdv A outer s H vs Q E hr h => ?_)
  · obtain ⟨O, ts, T, ws, y, T', hc, rw', hl, _⟩ := h
    exact (Paired.length rw').trans hl
  · obtain ⟨O, ts, T, ws, y, T', hc, rw', hl, e, q⟩ := h
    refine ⟨_, pss_cons (ps_set (i := 1) sc__law_told.nd rfl (.inl rfl) (pe_tup (pa_cons pe_non (pa_cons (pe_tup pa_nil) pa_nil)))) (pss_cons (XE.ps_tryA (C := C) (R := R) (i := 2) (j := 1) FL (hr.mono (by omega)) rfl ml Fl.kp BL (pa_cons (pv 0) pa_nil) x.c x.r rfl mR sc__law_told.nd (fun e oe dx h1 h2 h3 => pss_cons (ps_set (i := 3) sc__law_told.nd rfl (.inl rfl)
        (XE.pe_isxs (Ds := [A1, A2, A3, A4, A5, A6]) (C := C) ⟨List.mem_cons_self, h1, h2, h3, x.is, x.hd⟩ (pv 2) rfl B.b_isinstance (pa_cons (pe_glob (v := .ref A1) rfl m1 rfl) (pa_cons (pe_glob (v := .ref A2) rfl m2 rfl) (pa_cons (pe_glob (v := .ref A3) rfl m3 rfl) (pa_cons (pe_glob (v := .ref A4) rfl m4 rfl) (pa_cons (pe_glob (v := .ref A5) rfl m5 rfl) (pa_cons (pe_glob (v := .ref A6) rfl m6 rfl) pa_nil)))))) (fun _ _ _ z => z) (show 6 ≤ 100 by decide) x.kD))
        (pss_one (ps_set (i := 1) sc__law_told.nd rfl (.inl rfl) (pe_tup (pa_cons (pe_ifExp (pt_val (XE.pe_isx (C := C) ⟨List.mem_cons_self, h1, h2, h3, x.is, x.hd⟩ (pv 2) rfl B.b_isinstance rfl mC x.kC)) (XE.pe_xn (C := C) ⟨List.mem_cons_self, h1, h2, h3, x.is, x.hd⟩ (pv 2) x.nn) pe_non)
          (pa_cons (pe_tup (pa_cons (XE.pe_isxT (T := "") (C := C) ⟨List.mem_cons_self, h1, h2, h3, x.is, x.hd⟩ (pv 2) rfl B.b_isinstance rfl B.b_ValueError x.kV) (pa_cons (pv 3) pa_nil))) pa_nil))))))) (pss_one (ps_ret (pv 1)))), ?_⟩
    unfold m__law_told at e
    obtain ⟨r0, T1, e1, e⟩ := bnd_of e
    obtain ⟨v0, rfl⟩ : ∃ a, vs = [a] := by
      have hv : vs.length = 1 := (Paired.length rw').trans hl
      match vs, hv with
      | [a], _ => exact ⟨a, rfl⟩
    have hno : noLoc ws = true := by
      unfold x_paper at e1
      split at e1
      · rfl
      · cases e1
    have h2z : (2 : Nat) ≤ sizeLine := by decide
    refine ⟨Nat.zero_le _, fun p0 hp0 => ⟨h2z, fun p1 hp1 => ?_⟩⟩
    have s0 : SameX ts H (upd (upd H p0 (.tup [])) p1 (.tup [.non, .ref p0])) := (SameX.new hp0 _).trans (.new hp1 _)
    have c0 : HC K O ts (upd (upd H p0 (.tup [])) p1 (.tup [.non, .ref p0])) T := (hc.new hp0 _).new hp1 _
    refine ⟨v0, rfl, O, ts, T, ws, r0, T1, c0, rw'.mono hc s0, hl, hno, e1, fun ys ey v H' s1 hc1 rv => fun a b ha hb => ⟨_, rfl, ?_⟩, fun k ek dx H' s1 hc1 hx => ⟨rfl, dx, rfl, fun e => ?_⟩⟩
    · subst ey
      cases e
      have ra : Rep K O (upd H' a (.tup [])) (.ref a) (.tuple []) := hc1.newT ha .nil
      have ca := hc1.new ha (.tup [])
      exact q _ _ (s0.trans (s1.trans ((SameX.new ha _).trans (.new hb _)))) (ca.new hb _) (ca.newT hb (.cons (Rep.mono (hc1.leNew ha _) rv) (.cons ra .nil)))
    · subst ek
      cases e
      refine ⟨rfl, ⟨_, hx⟩, fun p hp => ?_⟩
      have hx1 : upd H' p (.tup ([A1, A2, A3, A4, A5, A6].map V.ref)) dx = _ := (upd_ne (ne_of_none hx hp)).trans hx
      refine ⟨rfl, ⟨_, hx1⟩, true, rfl, iteT ⟨rfl, _, .int (k : Int), hx1, rfl, rfl, ⟨_, hx1⟩, .bl false, rfl, h2z, fun a ha => ?_⟩⟩
      refine ⟨h2z, fun b hb => ?_⟩
      refine ⟨_, rfl, ?_⟩
      have cp := hc1.new hp (.tup ([A1, A2, A3, A4, A5, A6].map V.ref))
      have ca := cp.new ha (.tup [.bl true, .bl false])
      exact q _ _ (s0.trans (s1.trans ((SameX.new hp _).trans ((SameX.new ha _).trans (.new hb _))))) (ca.new hb _) (ca.newT hb (.cons (.int _) (.cons (cp.newT ha (.cons (.bl _) (.cons (.bl _) .nil))) .nil)))
end G
namespace G
open PySem PySem.Spec PyProof.Rows L2 D
theorem len0 {α : Type} {us : List α} (h : us.length = 0) : us = [] := List.length_eq_zero_iff.mp h
theorem len1 {α : Type} {us : List α} (h : us.length = 1) : ∃ a, us = [a] := List.length_eq_one_iff.mp h
theorem len2 {α : Type} : ∀ {us : List α}, us.length = 2 → ∃ a b, us = [a, b]
  | [a, b], _ => ⟨a, b, rfl⟩
theorem len3 {α : Type} : ∀ {us : List α}, us.length = 3 → ∃ a b c, us = [a, b, c]
  | [a, b, c], _ => ⟨a, b, c, rfl⟩
theorem all_mk {l : PySem.W.OpenLaw} {w : World} {K : PySem.W.Frag} {h : Heap} {mg : Str → Option Value} {fa : Addr} (X : K.In h) (G : h.Ns mainGlobals mg) (hfa : mg (Str.ofString "law") = some (.ref fa)) {xC xR xA1 xA2 xA3 xA4 xA5 xA6 : Addr} (q_BadLine : PySem.W.nsIn K mainGlobals (Str.ofString "BadLine") = some (some (.ref xC))) (q_RedoError : PySem.W.nsIn K mainGlobals (Str.ofString "RedoError") = some (some (.ref xR))) (q_BadPaper : PySem.W.nsIn K mainGlobals (Str.ofString "BadPaper") = some (some (.ref xA1))) (q_BadWord : PySem.W.nsIn K mainGlobals (Str.ofString "BadWord") = some (some (.ref xA2))) (q_NoLine : PySem.W.nsIn K mainGlobals (Str.ofString "NoLine") = some (some (.ref xA3))) (q_NoPaper : PySem.W.nsIn K mainGlobals (Str.ofString "NoPaper") = some (some (.ref xA4))) (q_NoRow : PySem.W.nsIn K mainGlobals (Str.ofString "NoRow") = some (some (.ref xA5))) (q_NotMade : PySem.W.nsIn K mainGlobals (Str.ofString "NotMade") = some (some (.ref xA6))) (xb : XE.XB K xC xR "at" [xA1, xA2, xA3, xA4, xA5, xA6]) (d_ini : DfM K xC (Str.ofString "__init__") (Str.ofString "BadLine.__init__") (mtop 3 0)) (d_paper_by : Df K (Str.ofString "paper_by") (top 45)) (d_is_whole : Df K (Str.ofString "is_whole") (top 17)) (d_has_only : Df K (Str.ofString "has_only") (top 18)) (d_is_name : Df K (Str.ofString "is_name") (top 19)) (d_is_single : Df K (Str.ofString "is_single") (top 20)) (d_is_built : Df K (Str.ofString "is_built") (top 21)) (d_many_of : Df K (Str.ofString "many_of") (top 23)) (d_is_value : Df K (Str.ofString "is_value") (top 22)) (d_is_figures : Df K (Str.ofString "is_figures") (top 33)) (d_number_by : Df K (Str.ofString "number_by") (top 32)) (d_single_by : Df K (Str.ofString "single_by") (top 31)) (d_single_at : Df K (Str.ofString "single_at") (top 30)) (d_row_at : Df K (Str.ofString "row_at") (top 29)) (d_value_at : Df K (Str.ofString "value_at") (top 28)) (d_value_by : Df K (Str.ofString "value_by") (top 27)) (d_is_stamp : Df K (Str.ofString "is_stamp") (top 39)) (d_is_read : Df K (Str.ofString "is_read") (top 38)) (d_are_reads : Df K (Str.ofString "are_reads") (top 37)) (d_is_end : Df K (Str.ofString "is_end") (top 40)) (d_is_line : Df K (Str.ofString "is_line") (top 36)) (d_line_text : Df K (Str.ofString "line_text") (top 42)) (d_line_by : Df K (Str.ofString "line_by") (top 43)) (d_paper_texts : Df K (Str.ofString "paper_texts") (top 44)) (d__law_draw : Df K (Str.ofString "_law_draw") (top 47)) (d__law_same : Df K (Str.ofString "_law_same") (top 48)) (d__law_is_name : Df K (Str.ofString "_law_is_name") (top 49)) (d__law_stamps : Df K (Str.ofString "_law_stamps") (top 50)) (d__law_names : Df K (Str.ofString "_law_names") (top 51)) (d__law_line : Df K (Str.ofString "_law_line") (top 52)) (d__law_text : Df K (Str.ofString "_law_text") (top 53)) (d__law_read : Df K (Str.ofString "_law_read") (top 54)) (d__law_bent : Df K (Str.ofString "_law_bent") (top 55)) (d__law_told : Df K (Str.ofString "_law_told") (top 56)) (d__law_paper_right : Df K (Str.ofString "_law_paper_right") (top 57)) (d_law : Df K (Str.ofString "law") (top 58)) (z_ValueError : PySem.W.nsIn K mainGlobals (Str.ofString "ValueError") = some none) (z_abs : PySem.W.nsIn K mainGlobals (Str.ofString "abs") = some none) (z_all : PySem.W.nsIn K mainGlobals (Str.ofString "all") = some none) (z_bool : PySem.W.nsIn K mainGlobals (Str.ofString "bool") = some none) (z_dict : PySem.W.nsIn K mainGlobals (Str.ofString "dict") = some none) (z_enumerate : PySem.W.nsIn K mainGlobals (Str.ofString "enumerate") = some none) (z_int : PySem.W.nsIn K mainGlobals (Str.ofString "int") = some none) (z_isinstance : PySem.W.nsIn K mainGlobals (Str.ofString "isinstance") = some none) (z_len : PySem.W.nsIn K mainGlobals (Str.ofString "len") = some none) (z_list : PySem.W.nsIn K mainGlobals (Str.ofString "list") = some none) (z_min : PySem.W.nsIn K mainGlobals (Str.ofString "min") = some none) (z_range : PySem.W.nsIn K mainGlobals (Str.ofString "range") = some none) (z_repr : PySem.W.nsIn K mainGlobals (Str.ofString "repr") = some none) (z_str : PySem.W.nsIn K mainGlobals (Str.ofString "str") = some none) (z_sum : PySem.W.nsIn K mainGlobals (Str.ofString "sum") = some none) (z_tuple : PySem.W.nsIn K mainGlobals (Str.ofString "tuple") = some none) {t_FIGURES : Tok} (y_FIGURES : PySem.W.nsIn K mainGlobals (Str.ofString "FIGURES") = some (some (.str (Str.ofString "0123456789") t_FIGURES))) {t_LETTERS : Tok} (y_LETTERS : PySem.W.nsIn K mainGlobals (Str.ofString "LETTERS") = some (some (.str (Str.ofString "abcdefghijklmnopqrstuvwxyz") t_LETTERS))) {t_MOST_FIGURES : Tok} (y_MOST_FIGURES : PySem.W.nsIn K mainGlobals (Str.ofString "MOST_FIGURES") = some (some (.int 19 t_MOST_FIGURES))) {t_MOST_LETTERS : Tok} (y_MOST_LETTERS : PySem.W.nsIn K mainGlobals (Str.ofString "MOST_LETTERS") = some (some (.int 8 t_MOST_LETTERS))) {t_MOST_PARTS : Tok} (y_MOST_PARTS : PySem.W.nsIn K mainGlobals (Str.ofString "MOST_PARTS") = some (some (.int 8 t_MOST_PARTS))) {t_MOST_READS : Tok} (y_MOST_READS : PySem.W.nsIn K mainGlobals (Str.ofString "MOST_READS") = some (some (.int 12 t_MOST_READS))) {t_MOST_ROWS : Tok} (y_MOST_ROWS : PySem.W.nsIn K mainGlobals (Str.ofString "MOST_ROWS") = some (some (.int 4 t_MOST_ROWS))) {t_MOST_SIGNS : Tok} (y_MOST_SIGNS : PySem.W.nsIn K mainGlobals (Str.ofString "MOST_SIGNS") = some (some (.int 20 t_MOST_SIGNS))) {t_MOST_VALUES : Tok} (y_MOST_VALUES : PySem.W.nsIn K mainGlobals (Str.ofString "MOST_VALUES") = some (some (.int 40 t_MOST_VALUES))) {t_TEXT_SIGNS : Tok} (y_TEXT_SIGNS : PySem.W.nsIn K mainGlobals (Str.ofString "TEXT_SIGNS") = some (some (.str (Str.ofString "abcdefghijklmnopqrstuvwxyz0123456789-") t_TEXT_SIGNS)))
    (hm : ∀ ns : List Int, ns.length ≤ 63 → ∃ T', m_law [.d (script ns)] [] = some (.bool true, T')) :
    ∃ fd : FuncData, (∀ (s : Shared) (v : Value), BindsTo s fd ⟨[v], []⟩ [((Str.ofString "_law_script"), v)]) ∧ ∀ base : Heap, K.In base → base.Ns mainGlobals mg → FnOk l.prog w K mg base CX0 40 fa fd [Str.ofString "_law_script"] (spLaw K) := by
  have B : Bi K mg := ⟨PySem.W.mg_none_of X G z_ValueError, PySem.W.mg_none_of X G z_abs, PySem.W.mg_none_of X G z_all, PySem.W.mg_none_of X G z_bool, PySem.W.mg_none_of X G z_dict, PySem.W.mg_none_of X G z_enumerate, PySem.W.mg_none_of X G z_int, PySem.W.mg_none_of X G z_isinstance, PySem.W.mg_none_of X G z_len, PySem.W.mg_none_of X G z_list, PySem.W.mg_none_of X G z_min, PySem.W.mg_none_of X G z_range, PySem.W.mg_none_of X G z_repr, PySem.W.mg_none_of X G z_str, PySem.W.mg_none_of X G z_sum, PySem.W.mg_none_of X G z_tuple, ⟨_, PySem.W.mg_of X G y_FIGURES⟩, ⟨_, PySem.W.mg_of X G y_LETTERS⟩, ⟨_, PySem.W.mg_of X G y_MOST_FIGURES⟩, ⟨_, PySem.W.mg_of X G y_MOST_LETTERS⟩, ⟨_, PySem.W.mg_of X G y_MOST_PARTS⟩, ⟨_, PySem.W.mg_of X G y_MOST_READS⟩, ⟨_, PySem.W.mg_of X G y_MOST_ROWS⟩, ⟨_, PySem.W.mg_of X G y_MOST_SIGNS⟩, ⟨_, PySem.W.mg_of X G y_MOST_VALUES⟩, ⟨_, PySem.W.mg_of X G y_TEXT_SIGNS⟩, ⟨_, _, _, _, _, _, _, _, xb, PySem.W.mg_of X G q_BadLine, PySem.W.mg_of X G q_RedoError, PySem.W.mg_of X G q_BadPaper, PySem.W.mg_of X G q_BadWord, PySem.W.mg_of X G q_NoLine, PySem.W.mg_of X G q_NoPaper, PySem.W.mg_of X G q_NoRow, PySem.W.mg_of X G q_NotMade, d_ini⟩, let ⟨f, _, _, _, _, _, _, _, _, _, a, lk, c, kp⟩ := d_paper_by.ex; ⟨f, _, fun_mk lk c kp, PySem.W.mg_of X G a⟩⟩
  obtain ⟨f0, oc, od, an, sl, kV, dc, pm, cd, ct, a, lk, c, kp⟩ := d_law.ex
  have e := hfa.symm.trans (PySem.W.mg_of X G a)
  cases e
  have FL := fun_mk (st := top 58) lk c kp
  refine ⟨PySem.W.fnOf (Str.ofString "law") (Str.ofString "law") (defArgs (top 58)) (defBody (top 58)) (defScope (top 58)) .none kV dc pm an cd ct, fun s v => .of_eq rfl, fun base _ _ => ?_⟩
  have G_is_whole : Fn l.prog w K mg base (Str.ofString "is_whole") [Str.ofString "thing"] 1 (spM K (List.length [Str.ofString "thing"]) m_is_whole) := d_is_whole.fn X G (fun _ _ _ _ _ _ us hl => by obtain ⟨a0, rfl⟩ := len1 hl; rfl) fun f fd F => ok_is_whole B F 
  have G_has_only : Fn l.prog w K mg base (Str.ofString "has_only") [Str.ofString "text", Str.ofString "signs"] 1 (spM K (List.length [Str.ofString "text", Str.ofString "signs"]) m_has_only) := d_has_only.fn X G (fun _ _ _ _ _ _ us hl => by obtain ⟨a0, a1, rfl⟩ := len2 hl; rfl) fun f fd F => ok_has_only B F 
  have G_is_name : Fn l.prog w K mg base (Str.ofString "is_name") [Str.ofString "thing"] 2 (spM K (List.length [Str.ofString "thing"]) m_is_name) := d_is_name.fn X G (fun _ _ _ _ _ _ us hl => by obtain ⟨a0, rfl⟩ := len1 hl; rfl) fun f fd F => ok_is_name B F G_has_only
  have G_is_single : Fn l.prog w K mg base (Str.ofString "is_single") [Str.ofString "thing"] 2 (spM K (List.length [Str.ofString "thing"]) m_is_single) := d_is_single.fn X G (fun _ _ _ _ _ _ us hl => by obtain ⟨a0, rfl⟩ := len1 hl; rfl) fun f fd F => ok_is_single B F G_is_whole G_has_only
  have R_is_built : ∀ n : Nat, Fn l.prog w K mg base (Str.ofString "is_built") [Str.ofString "thing", Str.ofString "rows_left"] (2 + n) (spM K (List.length [Str.ofString "thing", Str.ofString "rows_left"]) (m_is_built n)) := by
    intro n
    induction n with
    | zero => exact d_is_built.fn X G (fun _ _ _ _ _ _ us hl => by obtain ⟨a0, a1, rfl⟩ := len2 hl; rfl) fun f fd F => fn_none
    | succ n ih => exact d_is_built.fn X G (fun _ _ _ _ _ _ us hl => by obtain ⟨a0, a1, rfl⟩ := len2 hl; rfl) fun f fd F => ok_is_built n B F G_is_single ih
  have G_is_built := R_is_built 25
  have R_many_of : ∀ n : Nat, Fn l.prog w K mg base (Str.ofString "many_of") [Str.ofString "value"] (0 + n) (spM K (List.length [Str.ofString "value"]) (m_many_of n)) := by
    intro n
    induction n with
    | zero => exact d_many_of.fn X G (fun _ _ _ _ _ _ us hl => by obtain ⟨a0, rfl⟩ := len1 hl; rfl) fun f fd F => fn_none
    | succ n ih => exact d_many_of.fn X G (fun _ _ _ _ _ _ us hl => by obtain ⟨a0, rfl⟩ := len1 hl; rfl) fun f fd F => ok_many_of n B F ih
  have G_many_of := R_many_of 25
  have G_is_value : Fn l.prog w K mg base (Str.ofString "is_value") [Str.ofString "thing"] 28 (spM K (List.length [Str.ofString "thing"]) m_is_value) := d_is_value.fn X G (fun _ _ _ _ _ _ us hl => by obtain ⟨a0, rfl⟩ := len1 hl; rfl) fun f fd F => ok_is_value B F G_is_built G_many_of
  have G_is_figures : Fn l.prog w K mg base (Str.ofString "is_figures") [Str.ofString "text"] 2 (spM K (List.length [Str.ofString "text"]) m_is_figures) := d_is_figures.fn X G (fun _ _ _ _ _ _ us hl => by obtain ⟨a0, rfl⟩ := len1 hl; rfl) fun f fd F => ok_is_figures B F G_has_only
  have G_number_by : Fn l.prog w K mg base (Str.ofString "number_by") [Str.ofString "word"] 3 (spM K (List.length [Str.ofString "word"]) m_number_by) := d_number_by.fn X G (fun _ _ _ _ _ _ us hl => by obtain ⟨a0, rfl⟩ := len1 hl; rfl) fun f fd F => ok_number_by B F G_is_figures
  have G_single_by : Fn l.prog w K mg base (Str.ofString "single_by") [Str.ofString "word"] 4 (spM K (List.length [Str.ofString "word"]) m_single_by) := d_single_by.fn X G (fun _ _ _ _ _ _ us hl => by obtain ⟨a0, rfl⟩ := len1 hl; rfl) fun f fd F => ok_single_by B F G_number_by
  have G_single_at : Fn l.prog w K mg base (Str.ofString "single_at") [Str.ofString "text", Str.ofString "at"] 5 (spM K (List.length [Str.ofString "text", Str.ofString "at"]) m_single_at) := d_single_at.fn X G (fun _ _ _ _ _ _ us hl => by obtain ⟨a0, a1, rfl⟩ := len2 hl; rfl) fun f fd F => ok_single_at B F G_single_by
  have R_row_at : ∀ n : Nat, Fn l.prog w K mg base (Str.ofString "row_at") [Str.ofString "text", Str.ofString "at", Str.ofString "rows_left"] (5 + n) (spM K (List.length [Str.ofString "text", Str.ofString "at", Str.ofString "rows_left"]) (m_row_at n)) ∧ Fn l.prog w K mg base (Str.ofString "value_at") [Str.ofString "text", Str.ofString "at", Str.ofString "rows_left"] (5 + n) (spM K (List.length [Str.ofString "text", Str.ofString "at", Str.ofString "rows_left"]) (m_value_at n)) := by
    intro n
    induction n with
    | zero => exact ⟨d_row_at.fn X G (fun _ _ _ _ _ _ us hl => by obtain ⟨a0, a1, a2, rfl⟩ := len3 hl; rfl) fun f fd F => fn_none, d_value_at.fn X G (fun _ _ _ _ _ _ us hl => by obtain ⟨a0, a1, a2, rfl⟩ := len3 hl; rfl) fun f fd F => fn_none⟩
    | succ n ih => exact ⟨d_row_at.fn X G (fun _ _ _ _ _ _ us hl => by obtain ⟨a0, a1, a2, rfl⟩ := len3 hl; rfl) fun f fd F => ok_row_at n B F ih.2, d_value_at.fn X G (fun _ _ _ _ _ _ us hl => by obtain ⟨a0, a1, a2, rfl⟩ := len3 hl; rfl) fun f fd F => ok_value_at n B F G_single_at ih.1⟩
  have G_row_at := (R_row_at 25).1
  have G_value_at := (R_row_at 25).2
  have G_value_by : Fn l.prog w K mg base (Str.ofString "value_by") [Str.ofString "text"] 31 (spM K (List.length [Str.ofString "text"]) m_value_by) := d_value_by.fn X G (fun _ _ _ _ _ _ us hl => by obtain ⟨a0, rfl⟩ := len1 hl; rfl) fun f fd F => ok_value_by B F G_value_at G_is_value
  have G_is_stamp : Fn l.prog w K mg base (Str.ofString "is_stamp") [Str.ofString "thing"] 32 (spM K (List.length [Str.ofString "thing"]) m_is_stamp) := d_is_stamp.fn X G (fun _ _ _ _ _ _ us hl => by obtain ⟨a0, rfl⟩ := len1 hl; rfl) fun f fd F => ok_is_stamp B F G_value_by
  have G_is_read : Fn l.prog w K mg base (Str.ofString "is_read") [Str.ofString "thing"] 33 (spM K (List.length [Str.ofString "thing"]) m_is_read) := d_is_read.fn X G (fun _ _ _ _ _ _ us hl => by obtain ⟨a0, rfl⟩ := len1 hl; rfl) fun f fd F => ok_is_read B F G_is_name G_is_stamp
  have G_are_reads : Fn l.prog w K mg base (Str.ofString "are_reads") [Str.ofString "thing"] 34 (spM K (List.length [Str.ofString "thing"]) m_are_reads) := d_are_reads.fn X G (fun _ _ _ _ _ _ us hl => by obtain ⟨a0, rfl⟩ := len1 hl; rfl) fun f fd F => ok_are_reads B F G_is_read
  have G_is_end : Fn l.prog w K mg base (Str.ofString "is_end") [Str.ofString "thing"] 33 (spM K (List.length [Str.ofString "thing"]) m_is_end) := d_is_end.fn X G (fun _ _ _ _ _ _ us hl => by obtain ⟨a0, rfl⟩ := len1 hl; rfl) fun f fd F => ok_is_end B F G_is_stamp G_is_name
  have G_is_line : Fn l.prog w K mg base (Str.ofString "is_line") [Str.ofString "thing"] 35 (spM K (List.length [Str.ofString "thing"]) m_is_line) := d_is_line.fn X G (fun _ _ _ _ _ _ us hl => by obtain ⟨a0, rfl⟩ := len1 hl; rfl) fun f fd F => ok_is_line B F G_is_name G_are_reads G_is_end
  have G_line_text : Fn l.prog w K mg base (Str.ofString "line_text") [Str.ofString "line"] 1 (spM K (List.length [Str.ofString "line"]) m_line_text) := d_line_text.fn X G (fun _ _ _ _ _ _ us hl => by obtain ⟨a0, rfl⟩ := len1 hl; rfl) fun f fd F => ok_line_text B F 
  have G_line_by : Fn l.prog w K mg base (Str.ofString "line_by") [Str.ofString "text"] 36 (spM K (List.length [Str.ofString "text"]) m_line_by) := d_line_by.fn X G (fun _ _ _ _ _ _ us hl => by obtain ⟨a0, rfl⟩ := len1 hl; rfl) fun f fd F => ok_line_by B F G_is_line
  have G_paper_texts : Fn l.prog w K mg base (Str.ofString "paper_texts") [Str.ofString "paper"] 2 (spM K (List.length [Str.ofString "paper"]) m_paper_texts) := d_paper_texts.fn X G (fun _ _ _ _ _ _ us hl => by obtain ⟨a0, rfl⟩ := len1 hl; rfl) fun f fd F => ok_paper_texts B F G_line_text
  have G__law_draw : Fn l.prog w K mg base (Str.ofString "_law_draw") [Str.ofString "_law_script", Str.ofString "_law_k", Str.ofString "_law_many"] 1 (spM K (List.length [Str.ofString "_law_script", Str.ofString "_law_k", Str.ofString "_law_many"]) m__law_draw) := d__law_draw.fn X G (fun _ _ _ _ _ _ us hl => by obtain ⟨a0, a1, a2, rfl⟩ := len3 hl; rfl) fun f fd F => ok__law_draw B F 
  have G__law_same : Fn l.prog w K mg base (Str.ofString "_law_same") [Str.ofString "_law_found", Str.ofString "_law_due"] 1 (spM K (List.length [Str.ofString "_law_found", Str.ofString "_law_due"]) m__law_same) := d__law_same.fn X G (fun _ _ _ _ _ _ us hl => by obtain ⟨a0, a1, rfl⟩ := len2 hl; rfl) fun f fd F => ok__law_same B F 
  have G__law_is_name : Fn l.prog w K mg base (Str.ofString "_law_is_name") [Str.ofString "_law_word"] 1 (spM K (List.length [Str.ofString "_law_word"]) m__law_is_name) := d__law_is_name.fn X G (fun _ _ _ _ _ _ us hl => by obtain ⟨a0, rfl⟩ := len1 hl; rfl) fun f fd F => ok__law_is_name B F 
  have G__law_stamps : Fn l.prog w K mg base (Str.ofString "_law_stamps") ([] : List Str) 1 (spM K (List.length ([] : List Str)) m__law_stamps) := d__law_stamps.fn X G (fun _ _ _ _ _ _ us hl => by obtain rfl := len0 hl; rfl) fun f fd F => ok__law_stamps B F 
  have G__law_names : Fn l.prog w K mg base (Str.ofString "_law_names") ([] : List Str) 1 (spM K (List.length ([] : List Str)) m__law_names) := d__law_names.fn X G (fun _ _ _ _ _ _ us hl => by obtain rfl := len0 hl; rfl) fun f fd F => ok__law_names B F 
  have G__law_line : Fn l.prog w K mg base (Str.ofString "_law_line") [Str.ofString "_law_script", Str.ofString "_law_k"] 2 (spM K (List.length [Str.ofString "_law_script", Str.ofString "_law_k"]) m__law_line) := d__law_line.fn X G (fun _ _ _ _ _ _ us hl => by obtain ⟨a0, a1, rfl⟩ := len2 hl; rfl) fun f fd F => ok__law_line B F G__law_draw G__law_names G__law_stamps
  have G__law_text : Fn l.prog w K mg base (Str.ofString "_law_text") [Str.ofString "_law_line_here"] 1 (spM K (List.length [Str.ofString "_law_line_here"]) m__law_text) := d__law_text.fn X G (fun _ _ _ _ _ _ us hl => by obtain ⟨a0, rfl⟩ := len1 hl; rfl) fun f fd F => ok__law_text B F 
  have G__law_read : Fn l.prog w K mg base (Str.ofString "_law_read") [Str.ofString "_law_text_here"] 2 (spM K (List.length [Str.ofString "_law_text_here"]) m__law_read) := d__law_read.fn X G (fun _ _ _ _ _ _ us hl => by obtain ⟨a0, rfl⟩ := len1 hl; rfl) fun f fd F => ok__law_read B F G__law_is_name G__law_stamps
  have G__law_bent : Fn l.prog w K mg base (Str.ofString "_law_bent") [Str.ofString "_law_script", Str.ofString "_law_k", Str.ofString "_law_text_here"] 2 (spM K (List.length [Str.ofString "_law_script", Str.ofString "_law_k", Str.ofString "_law_text_here"]) m__law_bent) := d__law_bent.fn X G (fun _ _ _ _ _ _ us hl => by obtain ⟨a0, a1, a2, rfl⟩ := len3 hl; rfl) fun f fd F => ok__law_bent B F G__law_names G__law_stamps G__law_draw
  have G__law_told : Fn l.prog w K mg base (Str.ofString "_law_told") [Str.ofString "_law_texts"] 38 (spM K (List.length [Str.ofString "_law_texts"]) m__law_told) := d__law_told.fn X G (fun _ _ _ _ _ _ us hl => by obtain ⟨a0, rfl⟩ := len1 hl; rfl) fun f fd F => ok__law_told B F G_line_by
  have G__law_paper_right : Fn l.prog w K mg base (Str.ofString "_law_paper_right") [Str.ofString "_law_texts"] 39 (spM K (List.length [Str.ofString "_law_texts"]) m__law_paper_right) := d__law_paper_right.fn X G (fun _ _ _ _ _ _ us hl => by obtain ⟨a0, rfl⟩ := len1 hl; rfl) fun f fd F => ok__law_paper_right B F G__law_read G__law_told G__law_same
  exact fnOk_imp (ok_law B FL G__law_draw G__law_line G__law_text G_paper_texts G__law_same G__law_paper_right G_line_text G__law_bent G__law_read G_line_by) (law_plain hm)
theorem walk {l : PySem.W.OpenLaw} {q : Program} {loose : List Str} {XP : (Str → Option Value) → Heap → Prop} {YP : World → Heap → Prop} {d : DefRec} {K : Params → PySem.W.Frag} (hn : l.most = some 63) (hdf : d.params.defaults = [])
    (hY : ∀ (w : World) (h : Heap), YP w h → (K w.params).In h)
    (F : ∀ (w : World) (mg : Str → Option Value) (fa : Addr) (h : Heap), (K w.params).In h → h.Ns mainGlobals mg → mg d.name = some (.ref fa) →
      ∃ fd : FuncData, (∀ (s : Shared) (u : Value), BindsTo s fd ⟨[u], []⟩ [((Str.ofString "_law_script"), u)]) ∧ ∀ base : Heap, (K w.params).In base → base.Ns mainGlobals mg → FnOk l.prog w (K w.params) mg base CX0 40 fa fd [Str.ofString "_law_script"] (spLaw (K w.params))) :
    PySem.W.WalkO q loose XP YP l.row.toRowW d [] (fun f vs => PySem.call f vs) :=
  L2.walk_of (n := 63) (k := 40) (x := (Str.ofString "_law_script")) (CX := fun _ => CX0) (sp := fun w => spLaw (K w.params)) hn (by decide) hdf ⟨rfl, by decide, by decide, rfl⟩ hY F (fun _ _ a ns hl _ hS => ⟨a, ns, rfl, hS, hl, fun _ => rfl⟩) fun _ _ _ _ _ z => z
end G
namespace G
open PySem PySem.Spec PySem.Calls PySem.W PyProof.Rows PySem.W.X PySem.W.ZRun
theorem walkZ {q : Program} {loose : List Str} {XP : (Str → Option Value) → Heap → Prop} {K : Params → PySem.W.Frag} {r : RowW} {d : DefRec} {kwd : List (Str × Expr)}
    {w : World} {s₀ s₁ : Shared} {mg mb : Str → Option Value} {a : Addr} {o : Obj} {pm cd doc dV kV : Value} {args : List WData} {vals : List Value} {as : List Addr}
    (KX : (K w.params).In s₁.heap) (GR : Ground q loose r.records XP w s₀ mg mb s₁.heap) (ho : s₁.heap.get? a = some o)
    (hd : o.data = .func { docDef d.name d.params d.body d.scope pm cd doc with defaults := dV, kwdefaults := kV }) (hcd : s₁.heap.CodeRec cd d.name) (hD : Dflts mg s₁.heap d.params kwd dV kV) (hmg : mg d.name = some (.ref a)) (hg : s₁.gens = #[])
    (hpre : r.claim.pre args = true) (hlay : WData.layableAll args = true) (hrd : ReadsAllW r.records (classAt s₀.heap) s₁.heap vals args as) (hwl : WellAll w.params s₁.heap vals args) (hlo : ∀ a ∈ as, (a == sysModules) = false)
    (W : PySem.W.WalkO q loose XP (fun w h => (K w.params).In h) r d kwd fun f vs => PySem.call f vs) :
    wpAny (model r.prog w) callerA (PySem.call (.ref a) vals) (fun v s' => GoodWG r.claim (classAt s₀.heap) (ExcName.means s₀.heap) args s₁ (.ok (.ret v)) s')
        (fun e s' => GoodWG r.claim (classAt s₀.heap) (ExcName.means s₀.heap) args s₁ (.error e) s') s₁ :=
  W w s₀ s₁ mg mb GR KX a o pm cd doc dV kV ho hd hcd hD hmg hg args vals as hpre hlay hrd hwl hlo
end G
noncomputable def PySem.W.Fast.tw7785420348113971422 : Unit := ()
noncomputable def PySem.W.Fast.tw15968386544483861042 : Unit := ()
noncomputable def PySem.W.Fast.tw4550757708379326478 : Unit := ()
noncomputable def PySem.W.Fast.tw12486486932791832248 : Unit := ()
noncomputable def PySem.W.Fast.tw8138688838833544602 : Unit := ()
noncomputable def PySem.W.Fast.tw16782411099525814199 : Unit := ()
noncomputable def PySem.W.Fast.tw4543259475152723667 : Unit := ()
noncomputable def PySem.W.Fast.tw12478772007614598397 : Unit := ()
noncomputable def PySem.W.Fast.tw4029396000372912572 : Unit := ()
noncomputable def PySem.W.Fast.tw14068505919463414891 : Unit := ()
noncomputable def PySem.W.Fast.tw9370621079700769666 : Unit := ()
noncomputable def PySem.W.Fast.tw8958268244877082140 : Unit := ()
noncomputable def PySem.W.Fast.tw349858253260636849 : Unit := ()
noncomputable def PySem.W.Fast.tw7044178109018514285 : Unit := ()
noncomputable def PySem.W.Fast.tw12497489132795958765 : Unit := ()
noncomputable def PySem.W.Fast.tw7331782053656220799 : Unit := ()
noncomputable def PySem.W.Fast.tw13440826451282048462 : Unit := ()
noncomputable def PySem.W.Fast.tw10105949824619789006 : Unit := ()
noncomputable def PySem.W.Fast.tw8803685376931217622 : Unit := ()
noncomputable def PySem.W.Fast.tw4061005800093637992 : Unit := ()
noncomputable def PySem.W.Fast.tw8213400094875309224 : Unit := ()
noncomputable def PySem.W.Fast.tw12290261928024437983 : Unit := ()
noncomputable def PySem.W.Fast.tw393488689767801069 : Unit := ()
noncomputable def PySem.W.Fast.tw14510836132640153763 : Unit := ()
noncomputable def PySem.W.Fast.tw1326184093091095399 : Unit := ()
noncomputable def PySem.W.Fast.tw16398915779423441936 : Unit := ()
noncomputable def PySem.W.Fast.tw9327969262014592309 : Unit := ()
noncomputable def PySem.W.Fast.tw16678586011767097838 : Unit := ()
noncomputable def PySem.W.Fast.tw7071315758303437979 : Unit := ()
noncomputable def PySem.W.Fast.tw1053381359456305691 : Unit := ()
noncomputable def PySem.W.Fast.tw5794760375719698742 : Unit := ()
noncomputable def PySem.W.Fast.tw14797713697588619756 : Unit := ()
noncomputable def PySem.W.Fast.tw17615856194446959624 : Unit := ()
noncomputable def PySem.W.Fast.tw1822028360840281978 : Unit := ()
noncomputable def PySem.W.Fast.tw13758565973488127733 : Unit := ()
noncomputable def PySem.W.Fast.tw15638029130865339783 : Unit := ()
noncomputable def PySem.W.Fast.tw5890935628318086960 : Unit := ()
noncomputable def PySem.W.Fast.tw17067984490592226381 : Unit := ()
noncomputable def PySem.W.Fast.tw8409168875731421966 : Unit := ()
noncomputable def PySem.W.Fast.tw1856041542554068914 : Unit := ()
noncomputable def PySem.W.Fast.tw13428883509481466425 : Unit := ()
noncomputable def PySem.W.Fast.tw11132106938318154578 : Unit := ()
noncomputable def PySem.W.Fast.tw3558148658324436023 : Unit := ()
noncomputable def PySem.W.Fast.tw4231907631673599198 : Unit := ()
noncomputable def PySem.W.Fast.tw12109012424031247828 : Unit := ()
noncomputable def PySem.W.Fast.tw13837456719002636898 : Unit := ()
noncomputable def PySem.W.Fast.tw10670006987515576214 : Unit := ()
noncomputable def PySem.W.Fast.tw13507189927489722527 : Unit := ()
noncomputable def PySem.W.Fast.tw2265690448968722430 : Unit := ()
noncomputable def PySem.W.Fast.tw15353359840702531008 : Unit := ()
noncomputable def PySem.W.Fast.tw2172359940536879763 : Unit := ()
noncomputable def PySem.W.Fast.tw4161905636633352334 : Unit := ()
noncomputable def PySem.W.Fast.tw12975484407407521286 : Unit := ()
noncomputable def PySem.W.Fast.tw7606788964901077490 : Unit := ()
noncomputable def PySem.W.Fast.tw2714048216056433572 : Unit := ()
noncomputable def PySem.W.Fast.tw16495455622458379825 : Unit := ()
noncomputable def PySem.W.Fast.tw1223204686180264410 : Unit := ()
noncomputable def PySem.W.Fast.tw16705372086622947076 : Unit := ()
noncomputable def PySem.W.Fast.tw9495329910453947925 : Unit := ()
noncomputable def PySem.W.Fast.tw5565407417204894880 : Unit := ()
noncomputable def PySem.W.Fast.tw3242865380229980280 : Unit := ()
noncomputable def PySem.W.Fast.tw15738797550580440640 : Unit := ()
noncomputable def PySem.W.Fast.tw12221075938705468975 : Unit := ()
noncomputable def PySem.W.Fast.tw8360162372632394070 : Unit := ()
noncomputable def PySem.W.Fast.tw14663300029061611818 : Unit := ()
noncomputable def PySem.W.Fast.tw11387201196522764268 : Unit := ()
noncomputable def PySem.W.Fast.tw11097660952514971525 : Unit := ()
noncomputable def PySem.W.Fast.tw10245332882735758602 : Unit := ()
noncomputable def PySem.W.Fast.tw17311650578245326140 : Unit := ()
noncomputable def PySem.W.Fast.tw4982184121334566334 : Unit := ()
noncomputable def PySem.W.Fast.tw13929031382655253075 : Unit := ()
noncomputable def PySem.W.Fast.tw12559288337587204013 : Unit := ()
noncomputable def PySem.W.Fast.tw10499012039295731819 : Unit := ()
noncomputable def PySem.W.Fast.tw13703730514631934103 : Unit := ()
noncomputable def PySem.W.Fast.tw7150091120270825075 : Unit := ()
noncomputable def PySem.W.Fast.tw16274322913726043526 : Unit := ()
noncomputable def PySem.W.Fast.tw9260050820263129208 : Unit := ()
noncomputable def PySem.W.Fast.tw9013378974438928705 : Unit := ()
noncomputable def PySem.W.Fast.tw7351271953444191928 : Unit := ()
noncomputable def PySem.W.Fast.tw9858514069070030248 : Unit := ()
noncomputable def PySem.W.Fast.tw14756815458538517247 : Unit := ()
noncomputable def PySem.W.Fast.tw14096847698527980793 : Unit := ()
noncomputable def PySem.W.Fast.tw7522714913221537892 : Unit := ()
noncomputable def PySem.W.Fast.tw4907926395737445431 : Unit := ()
noncomputable def PySem.W.Fast.tw14783250250546154623 : Unit := ()
noncomputable def PySem.W.Fast.tw10234275816373756172 : Unit := ()
noncomputable def PySem.W.Fast.tw16402226426501207627 : Unit := ()
noncomputable def PySem.W.Fast.tw14280117772237129899 : Unit := ()
noncomputable def PySem.W.Fast.tw4800750887812862855 : Unit := ()
noncomputable def PySem.W.Fast.tw6962965867753666365 : Unit := ()
noncomputable def PySem.W.Fast.tw6007877475723095414 : Unit := ()
noncomputable def PySem.W.Fast.tw6624826027984877324 : Unit := ()
noncomputable def PySem.W.Fast.tw560668862362923392 : Unit := ()
noncomputable def PySem.W.Fast.tw9170207729583173370 : Unit := ()
noncomputable def PySem.W.Fast.tw13403311391965902378 : Unit := ()
noncomputable def PySem.W.Fast.tw2100862033857017359 : Unit := ()
noncomputable def PySem.W.Fast.tw17802976704109698079 : Unit := ()
noncomputable def PySem.W.Fast.tw12247523135331720574 : Unit := ()
noncomputable def PySem.W.Fast.tw4586490296339518431 : Unit := ()
noncomputable def PySem.W.Fast.tw14011077756866518718 : Unit := ()
noncomputable def PySem.W.Fast.tw17439913536795324841 : Unit := ()
noncomputable def PySem.W.Fast.tw9991234895847378734 : Unit := ()
noncomputable def PySem.W.Fast.tw6176934340093157810 : Unit := ()
noncomputable def PySem.W.Fast.tw16339491102779129110 : Unit := ()
noncomputable def PySem.W.Fast.tw6946107223570074570 : Unit := ()
noncomputable def PySem.W.Fast.tw4655286665732685478 : Unit := ()
noncomputable def PySem.W.Fast.tw857472456251140552 : Unit := ()
noncomputable def PySem.W.Fast.tw16482775264778367851 : Unit := ()
noncomputable def PySem.W.Fast.tw6707810044336249958 : Unit := ()
noncomputable def PySem.W.Fast.tw1652350639595829464 : Unit := ()
noncomputable def PySem.W.Fast.tw17815380492535424584 : PySem.Program := PySem.Challenge.pw_redo_k82_lines_as_texts
theorem PySem.W.Fast.te17815380492535424584 : PySem.Challenge.pw_redo_k82_lines_as_texts = PySem.W.Fast.tw17815380492535424584 := rfl
open PySem PySem.W PyProof.Rows PySem.W.X PySem.W.ZRun
set_option maxRecDepth 100000 in
set_option maxHeartbeats 0 in
theorem PySem.Challenge.cw_redo_k82_lines_as_texts_holds : PySem.Challenge.rw_redo_k82_lines_as_texts.Holds := by
  w_on; o_law; z_head; (case hw => w_witness2)
  k_fill
  intro w s₀ s₁ mg mb GR y fa o pm cd doc dV kV ho hd hcd hD hmg hg args vals as L hpre hlay hrd hwl hlo
  z_open y L KX ZH ZN ZT
  clear ZH ZN ZT
  refine G.walkZ KX GR ho hd hcd hD hmg hg hpre hlay hrd hwl hlo ?W
  clear KX GR ho hd hcd hD hmg hg hpre hlay hrd hwl hlo L y
  refine G.walk (l := PySem.Challenge.rw_redo_k82_lines_as_texts) rfl rfl (fun w h Y => Y) ?F
  case F =>
    intro w mg fa h KX GG hmg
    refine' G.all_mk KX GG hmg ?_ ?_ ?_ ?_ ?_ ?_ ?_ ?_ ?_ ?_ ?_ ?_ ?_ ?_ ?_ ?_ ?_ ?_ ?_ ?_ ?_ ?_ ?_ ?_ ?_ ?_ ?_ ?_ ?_ ?_ ?_ ?_ ?_ ?_ ?_ ?_ ?_ ?_ ?_ ?_ ?_ ?_ ?_ ?_ ?_ ?_ ?_ ?_ ?_ ?_ ?_ ?_ ?_ ?_ ?_ ?_ ?_ ?_ ?_ ?_ ?_ ?_ ?_ ?_ ?_ ?_ ?_ ?_ ?_ ?_ ?_ G.law_math
    any_goals first | (refine' XE.xb_mk6 ?e1 ?e2 ?e3 ?e4 ?e5 ?e6 ?e7 ?e8 ?e9 ?e10 ?e11 ?e12 ?e13 ?e14 ?e15 ?e16 ?e17 ?e18 ?e19 ?e20 ?e21 ?e22 ?e23 ?e24 ?e25 ?e26 ?e27 ?e28 ?e29 ?e30 ?e31 ?e32 ?e33 ?e34 ?e35 ?e36 ?e37 ?e38 ?e39 ?e40 ?e41 ?e42 ?e43 ?e44; (case e1 => k_is); (case e2 => k_is); (case e3 => k_is); (case e4 => k_is); (case e5 => k_is); (case e6 => k_is); (case e7 => k_is); (case e8 => k_is); (case e9 => k_is); (case e10 => k_is); (case e11 => k_is); (case e12 => k_is); (case e13 => k_is); (case e14 => k_is); (case e15 => k_is); (case e16 => k_is); (case e17 => k_is); (case e18 => k_is); (case e19 => k_is); (case e20 => k_is); (case e21 => k_is); (case e22 => k_is); (case e23 => k_is); (case e24 => k_is); (case e25 => k_is); (case e26 => k_is); (case e27 => k_is); (case e28 => k_is); (case e29 => k_is); (case e30 => k_is); (case e31 => k_is); (case e32 => k_is); (case e33 => k_is); (case e34 => k_is); (case e35 => k_is); (case e36 => k_is); (case e37 => rfl); (case e38 => rfl); (case e39 => rfl); (case e40 => rfl); (case e41 => rfl); (case e42 => rfl); (case e43 => rfl); (case e44 => rfl)) | (refine' D.df_mk ?a ?l ?c ?k; (case a => k_is); (case l => k_is); (case c => k_is); (case k => k_is)) | (refine' D.dfm_mk ?a ?l ?c ?k ?n; (case a => k_is); (case l => k_is); (case c => k_is); (case k => k_is); (case n => k_is)) | k_is
    all_goals first | rfl | decide +kernel
