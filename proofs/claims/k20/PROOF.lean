import PyProof.Rows.All
import PyProof.EnumMake
import Wide.All
import OpenK.AllK
import Wide.FinOn
import Lean
import PyProof.EqAt
import PyProof.EqKinds
import PyProof.TupleCall
import PySem.Challenge.RW_surestretch_k20_sure_or_not
set_option Elab.async false
set_option linter.all false
set_option maxRecDepth 100000
namespace L2
open PySem PySem.Spec PyProof.Rows
noncomputable abbrev Key := Sum Int Str
noncomputable def keyIs : Key → Value → Bool
  | .inl k, v => Value.isInt k v
  | .inr x, v => Value.isStrOf x v
noncomputable def keyH (w : World) : Key → Int
  | .inl k => hashInt k
  | .inr x => hashStr w x
theorem keyIs_shape : ∀ {k : Key} {v : Value}, keyIs k v = true → (∃ i t, k = Sum.inl i ∧ v = Value.int i t) ∨ (∃ x t, k = Sum.inr x ∧ v = Value.str x t)
  | .inl i, v, h => by
    obtain ⟨t, e⟩ := Value.isInt_shape (k := i) (v := v) h
    exact .inl ⟨i, t, rfl, e⟩
  | .inr x, v, h => by
    obtain ⟨t, e⟩ := Value.isStrOf_shape (x := x) (v := v) h
    exact .inr ⟨x, t, rfl, e⟩
theorem key_ll (a b : Int) : decide ((Sum.inl a : Key) = Sum.inl b) = (a == b) := by
  by_cases e : a = b
  · subst e; simp
  · have h : ¬ (Sum.inl a : Key) = Sum.inl b := fun q => e (Sum.inl.inj q)
    rw [decide_eq_false h]
    exact (beq_eq_false_iff_ne.mpr e).symm
theorem key_rr (a b : Str) : decide ((Sum.inr a : Key) = Sum.inr b) = decide (a = b) := by
  by_cases e : a = b
  · subst e; simp
  · have h : ¬ (Sum.inr a : Key) = Sum.inr b := fun q => e (Sum.inr.inj q)
    rw [decide_eq_false h, decide_eq_false e]
theorem key_lr (a : Int) (b : Str) : decide ((Sum.inl a : Key) = Sum.inr b) = false := decide_eq_false (fun q => nomatch q)
theorem key_rl (a : Str) (b : Int) : decide ((Sum.inr a : Key) = Sum.inl b) = false := decide_eq_false (fun q => nomatch q)
noncomputable def mixKind (prog : Program) (w : World) : PySem.KeyKind prog w Key where
  is := keyIs
  hash := keyH w
  inj := fun v a b ha hb => by
    rcases keyIs_shape ha with ⟨i, t, rfl, rfl⟩ | ⟨x, t, rfl, rfl⟩
    · rcases keyIs_shape hb with ⟨j, u, rfl, e⟩ | ⟨y, u, rfl, e⟩
      · injection e with e1 _; rw [e1]
      · exact nomatch e
    · rcases keyIs_shape hb with ⟨j, u, rfl, e⟩ | ⟨y, u, rfl, e⟩
      · exact nomatch e
      · injection e with e1 _; rw [e1]
  byValue := fun k v h => by
    rcases keyIs_shape h with ⟨i, t, rfl, rfl⟩ | ⟨x, t, rfl, rfl⟩ <;> rfl
  pyHash := fun hv h => by
    rcases keyIs_shape hv with ⟨i, t, rfl, rfl⟩ | ⟨x, t, rfl, rfl⟩
    · exact wpAny_pyHash_int h
    · exact wpAny_pyHash_str h
  eqBool := fun hu hv h => by
    rcases keyIs_shape hu with ⟨i, t, rfl, rfl⟩ | ⟨x, t, rfl, rfl⟩
    · rcases keyIs_shape hv with ⟨j, u, rfl, rfl⟩ | ⟨y, u, rfl, rfl⟩
      · rw [key_ll] at h; exact wpAny_eqBool_int h
      · rw [key_lr] at h; exact SeqAt.EqAt.int_str i t y u _ _ _ _ h
    · rcases keyIs_shape hv with ⟨j, u, rfl, rfl⟩ | ⟨y, u, rfl, rfl⟩
      · rw [key_rl] at h; exact SeqAt.EqAt.str_int x t j u _ _ _ _ h
      · rw [key_rr] at h; exact wpAny_eqBool_str h
  «strs» := fun k x t v h => by
    rcases keyIs_shape h with ⟨i, u, rfl, e⟩ | ⟨y, u, rfl, e⟩
    · exact nomatch e
    · injection e with e1 _
      subst e1
      cases v <;> rfl
end L2
namespace L2
open PySem PySem.Spec PyProof.Rows
inductive V where
  | non | bl (b : Bool) | int (i : Int) | str (x : Str) | byt (b : Array UInt8) | flt (b : UInt64) | ref (a : Addr) | ty (n : String)
  deriving DecidableEq
noncomputable def RelV : V → Value → Prop
  | .non, u => u = Value.none
  | .bl b, u => u = Value.bool b
  | .int i, u => ∃ t, u = Value.int i t
  | .str x, u => ∃ t, u = Value.str x t
  | .byt b, u => ∃ t, u = Value.bytes b t
  | .flt b, u => ∃ t, u = Value.float b t
  | .ref a, u => u = Value.ref a
  | .ty n, u => u = Value.type n
noncomputable abbrev Vals : List V → List Value → Prop := Paired RelV
theorem Vals.length {xs : List V} {us : List Value} (r : Vals xs us) : xs.length = us.length := Paired.length r
theorem Vals.get : ∀ {xs : List V} {us : List Value} {i : Nat} {x : V}, Vals xs us → xs[i]? = some x → ∃ u, us[i]? = some u ∧ RelV x u
  | _, _, _, _, .nil, e => by simp at e
  | _, _, 0, _, .cons r _, e => by simp at e; subst e; exact ⟨_, rfl, r⟩
  | _, _, i + 1, x, .cons _ t, e => by
    obtain ⟨u, h1, h2⟩ := Vals.get (i := i) (x := x) t (by simpa using e)
    exact ⟨u, by simpa using h1, h2⟩
theorem Vals.set {x : V} {u : Value} (r : RelV x u) : ∀ {xs : List V} {us : List Value} (i : Nat), Vals xs us → Vals (xs.set i x) (us.set i u)
  | _, _, _, .nil => .nil
  | _, _, 0, .cons _ t => .cons r t
  | _, _, i + 1, .cons q t => .cons q (Vals.set r i t)
theorem Vals.append : ∀ {xs ys : List V} {us ws : List Value}, Vals xs us → Vals ys ws → Vals (xs ++ ys) (us ++ ws)
  | _, _, _, _, .nil, s => s
  | _, _, _, _, .cons r t, s => .cons r (Vals.append t s)
theorem Vals.take : ∀ {xs : List V} {us : List Value} (n : Nat), Vals xs us → Vals (xs.take n) (us.take n)
  | _, _, 0, _ => .nil
  | _, _, _ + 1, .nil => .nil
  | _, _, n + 1, .cons r t => .cons r (Vals.take n t)
theorem Vals.drop : ∀ {xs : List V} {us : List Value} (n : Nat), Vals xs us → Vals (xs.drop n) (us.drop n)
  | _, _, 0, r => r
  | _, _, _ + 1, .nil => .nil
  | _, _, n + 1, .cons _ t => Vals.drop n t
noncomputable def RelO : Option V → Option Value → Prop
  | some v, some u => RelV v u
  | none, none => True
  | _, _ => False
noncomputable def KV {κ : Type} : List (κ × V) → List (κ × Value) → Prop := Paired fun (p : κ × V) (q : κ × Value) => p.1 = q.1 ∧ RelV p.2 q.2
noncomputable def kV : Key → V
  | .inl i => .int i
  | .inr x => .str x
inductive HO where
  | lst (xs : List V)
  | tup (xs : List V)
  | dK (kvs : List (Key × V)) | dT (kvs : List (List Key × V))
  | set (S : Int → Bool) (n : Nat)
  | ins (C dx : Addr) (fs : List (Str × V))
  | own (x : Addr)
  | xd (fs : List (Str × V))
  | met (f x : Addr)
  | rng (lo hi : Int)
  | frz (o : Obj) (u : HO)
  | tbl (ps : Array Value)
  | ext (φ : Heap → Prop)
noncomputable abbrev Hp := Addr → Option HO
noncomputable def upd (H : Hp) (a : Addr) (o : HO) : Hp := fun b => if b = a then some o else H b
theorem upd_same {H : Hp} {a : Addr} {o : HO} : upd H a o a = some o := by unfold upd; rw [if_pos rfl]
theorem upd_ne {H : Hp} {a b : Addr} {o : HO} (h : b ≠ a) : upd H a o b = H b := by unfold upd; rw [if_neg h]
theorem ne_of {H : Hp} {a b : Addr} {o u : HO} (h : H a = some o) (h' : H b = some u) (d : o ≠ u) : a ≠ b := by
  intro e; subst e; rw [h] at h'; exact d (Option.some.inj h')
theorem ne_of_none {H : Hp} {a b : Addr} {o : HO} (h : H a = some o) (h' : H b = none) : a ≠ b := by
  intro e; subst e; rw [h] at h'; cases h'
section
variable (P : Program) (w : World)
noncomputable def ObjOk (H : Hp) (h : Heap) (a : Addr) : HO → Prop
  | .lst xs => xs.length ≤ sizeLine ∧ ∃ (its : List Value) (n : Nat), Vals xs its ∧ h.get? a = some { cls := .type "list", data := .seq its.toArray n }
  | .tup xs => xs.length ≤ sizeLine ∧ ∃ its : List Value, Vals xs its ∧ IsTup h a its.toArray
  | .dK kvs => kvs.length ≤ sizeLine ∧ (a == sysModules) = false ∧ ∃ vs, KV kvs vs ∧ h.DictOf (mixKind P w) a vs
  | .dT kvs => kvs.length ≤ sizeLine ∧ (a == sysModules) = false ∧ ∃ xs : List (List Key × Addr × Value),
      Paired (fun (p : List Key × V) (q : List Key × Addr × Value) => p.1 = q.1 ∧ H q.2.1 = some (.tup (p.1.map kV)) ∧ RelV p.2 q.2.2) kvs xs ∧
      ∃ o es ep, h.get? a = some o ∧ o.ExactDict ∧ o.data = .dict es ep ∧ es.toList = xs.map (entryOfKey (tupleKind (mixKind P w))) ∧ (xs.map (·.1)).Nodup
  | .set S n => h.SetOf (intKind P w) a S n
  | .ins C dx fs => H dx = some (.own a) ∧ fs.length ≤ 1000 ∧ dx ≠ a ∧ h.get? a = some (PySem.W.instObj C dx) ∧
      ∃ mA, h.Ns1 dx mA ∧ (∀ f, RelO (fs.lookup f) (mA f)) ∧ PySem.Within mA (fs.map (·.1))
  | .own _ => ∃ o, h.get? a = some o
  | .xd fs => ∃ mA, h.Ns1 a mA ∧ ∀ f, RelO (fs.lookup f) (mA f)
  | .rng lo hi => ∃ t u v, h.get? a = some { cls := .type "range", data := .fields #[.int lo t, .int hi u, .int 1 v] }
  | .frz o u => h.get? a = some o ∧ ObjOk H h a u
  | .tbl ps => h.get? a = some { cls := .none, data := .fields ps }
  | .met f x => h.get? a = some (PySem.W.methodObj (.ref f) (.ref x))
  | .ext φ => φ h ∧ (∃ o, h.get? a = some o) ∧ ∀ h1 h2 : Heap, φ h1 → (∀ o, h1.get? a = some o → h2.get? a = some o) → φ h2
noncomputable def HOk (H : Hp) (h : Heap) : Prop := ∀ a o, H a = some o → ObjOk P w H h a o
end
section
variable {P : Program} {w : World} {H H' : Hp} {h h' : Heap} {a : Addr} {o : HO}
theorem ObjOk.lt (x : ObjOk P w H h a o) : a < h.objs.size := by
  cases o with
  | lst xs => obtain ⟨_, _, _, _, e⟩ := x; exact Heap.lt_size e
  | tup xs => obtain ⟨_, _, _, p⟩ := x; exact p.lt
  | dK kvs => obtain ⟨_, _, _, _, o, _, _, e, _⟩ := x; exact Heap.lt_size e
  | dT kvs => obtain ⟨_, _, _, _, o, _, _, e, _⟩ := x; exact Heap.lt_size e
  | set S n => obtain ⟨o, _, _, _, e, _⟩ := x; exact Heap.lt_size e
  | ins C dx fs => obtain ⟨_, _, _, e, _⟩ := x; exact Heap.lt_size e
  | own y => obtain ⟨_, e⟩ := x; exact Heap.lt_size e
  | xd fs => obtain ⟨_, ⟨_, _, _, e, _⟩, _⟩ := x; exact Heap.lt_size e
  | rng lo hi => obtain ⟨_, _, _, e⟩ := x; exact Heap.lt_size e
  | frz ob u => obtain ⟨e, _⟩ := x; exact Heap.lt_size e
  | tbl ps => exact Heap.lt_size (show h.get? a = some _ from x)
  | met f y => exact Heap.lt_size (show h.get? a = some _ from x)
  | ext φ => obtain ⟨_, ⟨_, e⟩, _⟩ := x; exact Heap.lt_size e
theorem Paired.mapP {α β : Type} {F G : α → β → Prop} : ∀ {l₁ : List α} {l₂ : List β}, Paired F l₁ l₂ → (∀ a b, F a b → G a b) → Paired G l₁ l₂
  | _, _, .nil, _ => .nil
  | _, _, .cons r t, f => .cons (f _ _ r) (Paired.mapP t f)
theorem ObjOk.stay (x : ObjOk P w H h a o) (k : ∀ b u, (b = a ∨ H b = some (.own a)) → h.get? b = some u → h'.get? b = some u)
    (ho : ∀ b, H b = some (.own a) → H' b = some (.own a)) (ht : ∀ b xs, H b = some (.tup xs) → H' b = some (.tup xs)) : ObjOk P w H' h' a o := by
  induction o with
  | lst xs => obtain ⟨z, its, n, r, e⟩ := x; exact ⟨z, its, n, r, k _ _ (.inl rfl) e⟩
  | tup xs => obtain ⟨z, its, r, ob, e, c⟩ := x; exact ⟨z, its, r, ob, k _ _ (.inl rfl) e, c⟩
  | dK kvs => obtain ⟨z, y, vs, r, ob, es, ep, e, c⟩ := x; exact ⟨z, y, vs, r, ob, es, ep, k _ _ (.inl rfl) e, c⟩
  | dT kvs =>
    obtain ⟨z, y, xs, r, ob, es, ep, e, c⟩ := x
    exact ⟨z, y, xs, Paired.mapP r fun p q z => ⟨z.1, ht _ _ z.2.1, z.2.2⟩, ob, es, ep, k _ _ (.inl rfl) e, c⟩
  | set S n => obtain ⟨ob, es, ep, t, e, c⟩ := x; exact ⟨ob, es, ep, t, k _ _ (.inl rfl) e, c⟩
  | ins C dx fs =>
    obtain ⟨d, z, ne, e, mA, ⟨od, es, ep, e2, c⟩, r⟩ := x
    exact ⟨ho _ d, z, ne, k _ _ (.inl rfl) e, mA, ⟨od, es, ep, k _ _ (.inr d) e2, c⟩, r⟩
  | own y => obtain ⟨ob, e⟩ := x; exact ⟨ob, k _ _ (.inl rfl) e⟩
  | xd fs => obtain ⟨mA, ⟨od, es, ep, e, c⟩, r⟩ := x; exact ⟨mA, ⟨od, es, ep, k _ _ (.inl rfl) e, c⟩, r⟩
  | rng lo hi => obtain ⟨t, u, v, e⟩ := x; exact ⟨t, u, v, k _ _ (.inl rfl) e⟩
  | frz ob u ih => obtain ⟨e, q⟩ := x; exact ⟨k _ _ (.inl rfl) e, ih q⟩
  | tbl ps =>
    have e : h.get? a = some { cls := .none, data := .fields ps } := x
    show h'.get? a = some { cls := .none, data := .fields ps }
    exact k a _ (.inl rfl) e
  | met f y =>
    have e : h.get? a = some (PySem.W.methodObj (.ref f) (.ref y)) := x
    show h'.get? a = some (PySem.W.methodObj (.ref f) (.ref y))
    exact k a _ (.inl rfl) e
  | ext φ => obtain ⟨p, ⟨o, e⟩, st⟩ := x; exact ⟨st _ _ p fun o q => k _ _ (.inl rfl) q, ⟨o, k _ _ (.inl rfl) e⟩, st⟩
theorem HOk.lt (x : HOk P w H h) (e : H a = some o) : a < h.objs.size := (x a o e).lt
theorem HOk.fresh (x : HOk P w H h) (e : h.objs.size ≤ a) : H a = none := by
  cases q : H a with
  | none => rfl
  | some u => exact absurd (Nat.lt_of_lt_of_le (x.lt q) e) (Nat.lt_irrefl _)
theorem HOk.kept (x : HOk P w H h) (k : ∀ b u, h.get? b = some u → h'.get? b = some u) : HOk P w H h' := fun a o e =>
  (x a o e).stay (fun b u _ q => k b u q) (fun _ q => q) fun _ _ q => q
theorem HOk.laid (x : HOk P w H h) (k : ∀ b u, h.get? b = some u → h'.get? b = some u) (hp : h.objs.size ≤ a) (new : ObjOk P w (upd H a o) h' a o) : HOk P w (upd H a o) h' := fun b u e => by
  have hn := x.fresh hp
  by_cases hb : b = a
  · subst hb; rw [upd_same] at e; cases e; exact new
  · rw [upd_ne hb] at e
    exact (x b u e).stay (fun c v _ q => k c v q) (fun c q => by rw [upd_ne (ne_of_none q hn)]; exact q) fun c xs q => by rw [upd_ne (ne_of_none q hn)]; exact q
end
noncomputable def Rd (H : Hp) (a : Addr) (u : HO) : Prop := H a = some u ∨ ∃ o, H a = some (.frz o u)
theorem Rd.of {H : Hp} {a : Addr} {u : HO} (h : H a = some u) : Rd H a u := .inl h
theorem Rd.ok {P : Program} {w : World} {H : Hp} {h : Heap} {a : Addr} {u : HO} (r : Rd H a u) (x : HOk P w H h) : ObjOk P w H h a u := by
  rcases r with r | ⟨o, r⟩
  · exact x a u r
  · obtain ⟨_, q⟩ := x a _ r
    exact q
noncomputable def Mut : Option HO → Prop
  | some (.lst _) => True
  | some (.dK _) => True
  | some (.dT _) => True
  | some (.set _ _) => True
  | some (.ins _ _ _) => True
  | some (.ext _) => True
  | _ => False
section
variable {P : Program} {w : World} {H : Hp} {h h' : Heap} {x e : Addr} {o' : HO}
theorem HOk.write (ok : HOk P w H h) (mu : Mut (H x)) (he : e = x ∨ H e = some (.own x)) (k : ∀ b u, b ≠ e → h.get? b = some u → h'.get? b = some u) (heo : ∃ u, h'.get? e = some u)
    (new : ObjOk P w (upd H x o') h' x o') : HOk P w (upd H x o') h' := fun b u q => by
  have nown : ∀ c y, H c = some (.own y) → c ≠ x := fun c y r z => by subst z; rw [r] at mu; exact mu
  have ntup : ∀ c xs, H c = some (.tup xs) → c ≠ x := fun c xs r z => by subst z; rw [r] at mu; exact mu
  by_cases hb : b = x
  · subst hb; rw [upd_same] at q; cases q; exact new
  · rw [upd_ne hb] at q
    by_cases hbe : b = e
    · have q' : H b = some (.own x) := by
        rcases he with z | z
        · exact absurd (hbe.trans z) hb
        · rw [hbe]; exact z
      rw [q] at q'; cases q'
      obtain ⟨v, hv⟩ := heo
      exact ⟨v, by rw [hbe]; exact hv⟩
    · refine (ok b u q).stay (fun c v hc r => k c v ?_ r) (fun c r => by rw [upd_ne (nown c b r)]; exact r) fun c xs r => by rw [upd_ne (ntup c xs r)]; exact r
      rcases hc with rfl | hc
      · exact hbe
      · rintro rfl
        rcases he with z | z
        · exact nown c b hc z
        · rw [hc] at z; cases z; exact hb rfl
end
structure Un (fs ex : List Addr) (H H' : Hp) (h h' : Heap) : Prop where
  keep : ∀ b o, h.get? b = some o → H b = none → b ∉ fs → b ∉ ex → h'.get? b = some o
  slot : ∀ b o, h.get? b = some o → H b = none → b ∈ fs → b ∉ ex → ∃ sl, h'.get? b = some { o with slots := sl }
  free : ∀ b o, h.get? b = some o → H b = none → b ∉ ex → H' b = none
  there : ∀ b o, h.get? b = some o → b ∉ ex → ∃ o', h'.get? b = some o'
  tups : ∀ b xs, H b = some (.tup xs) → H' b = some (.tup xs)
  frzs : ∀ b o u, H b = some (.frz o u) → H' b = some (.frz o u)
  tbls : ∀ b ps, H b = some (.tbl ps) → ∃ more, H' b = some (.tbl (ps ++ more))
section
variable {fs fs' ex ex' : List Addr} {H H1 H2 : Hp} {h h1 h2 h' : Heap} {a x e : Addr} {o : HO}
theorem Un.any (u : Un fs ex H H1 h h1) {b : Addr} {ob : Obj} (q : h.get? b = some ob) (n : H b = none) (hx : b ∉ ex) : ∃ sl, h1.get? b = some { ob with slots := sl } := by
  by_cases hb : b ∈ fs
  · exact u.slot b ob q n hb hx
  · exact ⟨ob.slots, u.keep b ob q n hb hx⟩
theorem Un.trans (a : Un fs ex H H1 h h1) (b : Un fs ex H1 H2 h1 h2) : Un fs ex H H2 h h2 where
  keep := fun c ob q n hc hx => b.keep c ob (a.keep c ob q n hc hx) (a.free c ob q n hx) hc hx
  slot := fun c ob q n hc hx => by
    obtain ⟨sl, e1⟩ := a.slot c ob q n hc hx
    obtain ⟨sl', e2⟩ := b.slot c _ e1 (a.free c ob q n hx) hc hx
    exact ⟨sl', e2⟩
  free := fun c ob q n hx => by
    obtain ⟨o', e1⟩ := a.there c ob q hx
    exact b.free c o' e1 (a.free c ob q n hx) hx
  there := fun c ob q hx => by
    obtain ⟨o', e1⟩ := a.there c ob q hx
    exact b.there c o' e1 hx
  tups := fun c xs q => b.tups c xs (a.tups c xs q)
  frzs := fun c ob xs q => b.frzs c ob xs (a.frzs c ob xs q)
  tbls := fun c ps q => by
    obtain ⟨m1, e1⟩ := a.tbls c ps q
    obtain ⟨m2, e2⟩ := b.tbls c _ e1
    exact ⟨m1 ++ m2, by rw [e2, Array.append_assoc]⟩
theorem Un.kept (k : ∀ b u, h.get? b = some u → h'.get? b = some u) : Un fs ex H H h h' :=
  ⟨fun b ob q _ _ _ => k b ob q, fun b ob q _ _ _ => ⟨ob.slots, k b ob q⟩, fun _ _ _ n _ => n, fun b ob q _ => ⟨ob, k b ob q⟩, fun _ _ q => q, fun _ _ _ q => q, fun _ ps q => ⟨#[], by rw [q]; simp⟩⟩
theorem Un.refl : Un fs ex H H h h := Un.kept fun _ _ q => q
theorem Un.laid (k : ∀ b u, h.get? b = some u → h'.get? b = some u) (hp : h.objs.size ≤ a) (hn : H a = none) : Un fs ex H (upd H a o) h h' where
  keep := fun b u q _ _ _ => k b u q
  slot := fun b u q _ _ _ => ⟨u.slots, k b u q⟩
  free := fun b u q n _ => by rw [upd_ne (Nat.ne_of_lt (Nat.lt_of_lt_of_le (Heap.lt_size q) hp))]; exact n
  there := fun b u q _ => ⟨u, k b u q⟩
  tups := fun b xs q => by rw [upd_ne (ne_of_none q hn)]; exact q
  frzs := fun b u xs q => by rw [upd_ne (ne_of_none q hn)]; exact q
  tbls := fun b ps q => ⟨#[], by rw [upd_ne (ne_of_none q hn), q]; simp⟩
theorem Un.write (mu : Mut (H x)) (he : e = x ∨ H e = some (.own x)) (k : ∀ b u, b ≠ e → h.get? b = some u → h'.get? b = some u) (heo : ∃ u, h'.get? e = some u) : Un fs ex H (upd H x o) h h' := by
  have hx : ∀ b, H b = none → b ≠ x := fun b n z => by subst z; rw [n] at mu; exact mu
  have hb : ∀ b, H b = none → b ≠ e := fun b n z => by
    subst z
    rcases he with r | r
    · exact hx b n r
    · rw [n] at r; cases r
  have hm : ∀ b u, H b = some u → ¬ Mut (some u) → b ≠ x := fun b u q nm z => by subst z; rw [q] at mu; exact nm mu
  refine ⟨fun b u q n _ _ => k b u (hb b n) q, fun b u q n _ _ => ⟨u.slots, k b u (hb b n) q⟩, fun b u q n _ => by rw [upd_ne (hx b n)]; exact n, fun b u q _ => ?_,
    fun b xs q => by rw [upd_ne (hm b _ q fun z => z)]; exact q, fun b u xs q => by rw [upd_ne (hm b _ q fun z => z)]; exact q, fun b ps q => ⟨#[], by rw [upd_ne (hm b _ q fun z => z), q]; simp⟩⟩
  by_cases hbe : b = e
  · subst hbe; exact heo
  · exact ⟨u, k b u hbe q⟩
theorem Un.mono (u : Un fs ex H H1 h h1) (hs : ∀ b ∈ fs, b ∈ fs') (hx : ∀ b ∈ ex, b ∈ ex') : Un fs' ex' H H1 h h1 :=
  ⟨fun b ob q n hb he => u.keep b ob q n (fun z => hb (hs b z)) fun z => he (hx b z), fun _ _ q n _ he => u.any q n fun z => he (hx _ z), fun b ob q n he => u.free b ob q n fun z => he (hx b z), fun b ob q he => u.there b ob q fun z => he (hx b z), u.tups, u.frzs, u.tbls⟩
end
noncomputable def trk (h : Heap) (H : Hp) : List Addr := (List.range h.objs.size).filter fun a => (H a).isSome
noncomputable def hidT (h : Heap) (H : Hp) : Heap := PySem.W.hideAll h (trk h H)
theorem hidT_size (h : Heap) (H : Hp) : (hidT h H).objs.size = h.objs.size := PySem.W.hideAll_size _ _
theorem hidT_get {h : Heap} {H : Hp} {b : Addr} {o : Obj} (e : h.get? b = some o) (n : H b = none) : (hidT h H).get? b = some o :=
  PySem.W.hideAll_get _ e fun hm => by
    have q : (H b).isSome = true := (List.mem_filter.mp hm).2
    rw [n] at q; simp at q
theorem of_hidT {h : Heap} {H : Hp} {b : Addr} {o : Obj} (e : (hidT h H).get? b = some o) : h.get? b = some o ∧ H b = none := by
  have e' : h.get? b = some o := PySem.W.of_hideAll (trk h H) e
  refine ⟨e', ?_⟩
  cases q : H b with
  | none => rfl
  | some x =>
    have hm : b ∈ trk h H := List.mem_filter.mpr ⟨List.mem_range.mpr (Heap.lt_size e'), by simp [q]⟩
    have z : (hidT h H).get? b = none := PySem.W.hideAll_none (trk h H) hm
    rw [z] at e; cases e
noncomputable def allNews (g h : Heap) (L : Addr) : List (Addr × Obj) := (List.range h.objs.size).filterMap fun a => if a = L ∨ (g.get? a).isSome = true then none else (h.get? a).map fun o => (a, o)
noncomputable def rest (g h : Heap) (L d : Addr) : List (Addr × Obj) := (allNews g h L).filter fun p => decide (p.1 ≠ d)
end L2
namespace L2
open PySem PySem.Spec PyProof.Rows
structure Mod (K : PySem.W.Frag) (mg : Str → Option Value) (base : Heap) : Prop where
  kin : K.In base
  glob : base.Ns mainGlobals mg
  blt : ∃ mb, base.Ns builtinsNs mb ∧ ∀ x : Str, x ≠ "__name__" → mb x = bootBuiltins x
  nolimit : base.NoLimit
structure Cx where
  prog : Program
  w : World
  K : PySem.W.Frag
  mg : Str → Option Value
  base : Heap
  A : Around
  N : List Str
  s₀ : Shared
  H₀ : Hp
  env : Env
  outer : List Env
  stack : List Env
  ex : List Addr
  fn : Str → Bool
  calm : Bool
  pn : List (Addr × Obj)
  xe : Value → Shared → Prop
noncomputable def frs (l : List Env) : List Addr := l.filterMap (·.frame)
noncomputable abbrev Cx.fs (X : Cx) : List Addr := frs X.outer
noncomputable def Vis (sc : Scope) (x : Str) : Prop := sc.names.lookup x = some .local ∨ sc.names.lookup x = some .cell ∨ sc.names.lookup x = some .free
noncomputable def Loc (sc : Scope) (x : Str) : Prop := sc.names.lookup x = some .local ∨ sc.names.lookup x = some .cell
noncomputable def Look (env : Env) (h : Heap) (m : Str → Option Value) (x : Str) (u : Value) : Prop :=
  (env.kindOf x = some .local ∧ m x = some u) ∨ ((env.kindOf x = some .cell ∨ env.kindOf x = some .free) ∧ ∃ c, env.cells.lookup x = some c ∧ h.IsCell c (some u))
structure Cx.Ok (X : Cx) : Prop where
  mod : Mod X.K X.mg X.base
  kind : X.env.scope.kind = .function
  glob : X.env.globals = mainGlobals
  blt : X.env.builtins = builtinsNs
  above : X.s₀.heap.objs.size ≤ X.env.locals
  inj : ∀ x y c, X.env.cells.lookup x = some c → X.env.cells.lookup y = some c → x = y
  has : ∀ x, (X.env.kindOf x = some .cell ∨ X.env.kindOf x = some .free) → ∃ c, X.env.cells.lookup x = some c
  cab : ∀ x c, X.fn x = true → X.env.cells.lookup x = some c → X.s₀.heap.objs.size ≤ c
  hd : X.calm = true → X.A.handled = none
  frames : X.A.frames = some X.stack
  stk : X.stack = X.outer ∨ (X.stack = X.env :: X.outer ∧ X.env.frame = some X.env.locals)
  exf : ∀ b ∈ X.ex, b ≠ X.env.locals ∧ ∀ x c, X.env.cells.lookup x = some c → c ≠ b
  bs : ∀ b o, X.base.get? b = some o → X.s₀.heap.get? b = some o ∧ X.H₀ b = none
  bsz : X.base.objs.size ≤ X.s₀.heap.objs.size
  noex : ∀ b o, X.base.get? b = some o → b ∉ X.ex
  exfs : ∀ b ∈ X.ex, b ∉ X.fs
  funs : X.s₀.heap.FunFrames X.base X.outer
  frf : ∀ b ∈ X.fs, X.H₀ b = none
structure Inv (X : Cx) (pins : List (Addr × Obj)) (σ : List (Option V)) (H : Hp) (s : Shared) : Prop where
  ok : X.Ok
  os : s.os = X.s₀.os
  bare : AllBare s.gens
  base : Un X.fs X.ex X.H₀ H X.s₀.heap s.heap
  loc : ∃ m, s.heap.Ns X.env.locals m ∧ ∀ (i : Nat) (x : Str) (v : V), X.N[i]? = some x → σ[i]? = some (some v) → Vis X.env.scope x → ∃ u, RelV v u ∧ Look X.env s.heap m x u
  cell : ∀ x c, X.env.cells.lookup x = some c → ∃ v, s.heap.IsCell c v
  free : H X.env.locals = none
  freeC : ∀ x c, X.env.cells.lookup x = some c → H c = none
  pin : ∀ p ∈ X.pn ++ pins, s.heap.get? p.1 = some p.2 ∧ H p.1 = none ∧ p.1 ≠ X.env.locals ∧ p.1 ∉ X.fs ∧ ∀ v, p.2.data ≠ .cell v
  hok : HOk X.prog X.w H s.heap
  len : σ.length = X.N.length
section
variable {X : Cx} {pins : List (Addr × Obj)} {σ : List (Option V)} {H H' : Hp} {s : Shared} {h' : Heap}
theorem Cx.Ok.nofr (ok : X.Ok) {b : Addr} {o : Obj} (e : X.base.get? b = some o) : b ∉ X.fs := fun hb => by
  have := (ok.funs.mem hb).1
  rw [e] at this; cases this
theorem Inv.bs (I : Inv X pins σ H s) : ∀ b o, X.base.get? b = some o → s.heap.get? b = some o ∧ H b = none := fun b o e =>
  ⟨I.base.keep b o (I.ok.bs b o e).1 (I.ok.bs b o e).2 (I.ok.nofr e) (I.ok.noex b o e), I.base.free b o (I.ok.bs b o e).1 (I.ok.bs b o e).2 (I.ok.noex b o e)⟩
theorem Inv.bk (I : Inv X pins σ H s) : ∀ b o, X.base.get? b = some o → s.heap.get? b = some o := fun b o e => (I.bs b o e).1
theorem Inv.mod (I : Inv X pins σ H s) : Mod X.K X.mg X.base := I.ok.mod
theorem Inv.kIn (I : Inv X pins σ H s) : X.K.In s.heap := I.ok.mod.kin.keeps I.bk
theorem Inv.nolimit (I : Inv X pins σ H s) : s.heap.NoLimit := I.ok.mod.nolimit.keeps I.bk
theorem Inv.fr (I : Inv X pins σ H s) : ∃ m, Fr X.base X.env.locals s.heap m :=
  let ⟨m, hn, _⟩ := I.loc
  ⟨m, hn, I.bk, Nat.le_trans I.ok.bsz I.ok.above⟩
theorem Inv.lt (I : Inv X pins σ H s) : X.env.locals < s.heap.objs.size := let ⟨_, hn, _⟩ := I.loc; hn.lt
theorem Inv.sz (I : Inv X pins σ H s) : X.s₀.heap.objs.size ≤ s.heap.objs.size := Nat.le_trans I.ok.above (Nat.le_of_lt I.lt)
theorem Inv.nofs (I : Inv X pins σ H s) {a : Addr} (h : s.heap.objs.size ≤ a) : a ∉ X.fs := fun hb => by
  obtain ⟨_, o, ho, _⟩ := I.ok.funs.mem hb
  exact absurd (Nat.lt_of_lt_of_le (Heap.lt_size ho) (Nat.le_trans I.sz h)) (Nat.lt_irrefl _)
theorem Inv.cne (I : Inv X pins σ H s) : ∀ x c, X.env.cells.lookup x = some c → c ≠ X.env.locals := fun x c e z => by
  obtain ⟨v, o, ho, hd⟩ := I.cell x c e
  obtain ⟨m, ⟨o', es, ep, ho', hd', _⟩, _⟩ := I.loc
  rw [z, ho'] at ho; cases ho; rw [hd'] at hd; cases hd
theorem Inv.funs (I : Inv X pins σ H s) : s.heap.FunFrames X.base X.outer := by
  have all : ∀ (l : List Env), (∀ b ∈ frs l, b ∈ X.fs) → X.s₀.heap.FunFrames X.base l → s.heap.FunFrames X.base l := by
    intro l
    induction l with
    | nil => intro _ _; trivial
    | cons env r ih =>
      intro hs hl
      obtain ⟨hk, ⟨L, o, hf, hn, ho, hd⟩, hr⟩ := hl
      have hL : L ∈ X.fs := hs L (by unfold frs; rw [List.filterMap_cons, hf]; exact List.mem_cons_self)
      obtain ⟨sl, e⟩ := I.base.slot L o ho (I.ok.frf L hL) hL fun z => I.ok.exfs L z hL
      exact ⟨hk, ⟨L, _, hf, hn, e, hd⟩, ih (fun b hb => hs b (by unfold frs; rw [List.filterMap_cons, hf]; exact List.mem_cons_of_mem _ hb)) hr⟩
  exact all X.outer (fun _ hb => hb) I.ok.funs
theorem Inv.stack (I : Inv X pins σ H s) : s.heap.FunFrames X.base X.stack := by
  rcases I.ok.stk with e | ⟨e, hf⟩
  · rw [e]; exact I.funs
  · rw [e]
    obtain ⟨m, hn, _⟩ := I.loc
    refine .cons (by rw [I.ok.kind]; decide) hf hn ?_ I.funs
    exact Heap.get?_none_of_le (Nat.le_trans I.ok.bsz I.ok.above)
theorem Inv.stkSub (I : Inv X pins σ H s) : ∀ b ∈ frs X.stack, b ∈ X.env.locals :: X.fs := fun b hb => by
  rcases I.ok.stk with e | ⟨e, hf⟩
  · rw [e] at hb; exact List.mem_cons_of_mem _ hb
  · rw [e] at hb
    unfold frs at hb
    rw [List.filterMap_cons, hf] at hb
    exact hb
theorem Inv.stkFree (I : Inv X pins σ H s) : ∀ b ∈ frs X.stack, H b = none := fun b hb => by
  rcases List.mem_cons.mp (I.stkSub b hb) with e | hb
  · rw [e]; exact I.free
  · obtain ⟨_, o, ho, _⟩ := I.ok.funs.mem hb
    exact I.base.free b o ho (I.ok.frf b hb) fun z => I.ok.exfs b z hb
theorem Inv.step {g' : Array GenState} {t' : Nat} {d' : Drawn} {ch : List Addr} (I : Inv X pins σ H s)
    (hch : ∀ b ∈ ch, (b ∈ X.ex ∨ X.s₀.heap.objs.size ≤ b) ∧ b ≠ X.env.locals ∧ (∀ x c, X.env.cells.lookup x = some c → c ≠ b) ∧ ∀ p ∈ X.pn ++ pins, p.1 ≠ b)
    (keep : ∀ b o, b ≠ X.env.locals → b ∉ X.fs → b ∉ ch → s.heap.get? b = some o → H b = none → h'.get? b = some o)
    (slot : ∀ b o, b ≠ X.env.locals → b ∈ X.fs → b ∉ ch → s.heap.get? b = some o → H b = none → ∃ sl, h'.get? b = some { o with slots := sl }) (free : ∀ b o, b ∉ ch → s.heap.get? b = some o → H b = none → H' b = none)
    (there : ∀ b o, b ∉ ch → s.heap.get? b = some o → ∃ o', h'.get? b = some o')
    (tups : ∀ b xs, H b = some (.tup xs) → H' b = some (.tup xs)) (frzs : ∀ b o u, H b = some (.frz o u) → H' b = some (.frz o u)) (tbls : ∀ b ps, H b = some (.tbl ps) → ∃ more, H' b = some (.tbl (ps ++ more)))
    (ns : ∀ m, s.heap.Ns X.env.locals m → h'.Ns X.env.locals m) (hok : HOk X.prog X.w H' h') (hg : AllBare g') :
    Inv X pins σ H' { s with heap := h', gens := g', drawn := d', toks := t' } := by
  have neL : ∀ b o, X.s₀.heap.get? b = some o → b ≠ X.env.locals := fun b o e => Nat.ne_of_lt (Nat.lt_of_lt_of_le (Heap.lt_size e) I.ok.above)
  have neC : ∀ b o, X.s₀.heap.get? b = some o → b ∉ X.ex → b ∉ ch := fun b o e hx hb => by
    rcases (hch b hb).1 with z | z
    · exact hx z
    · exact absurd (Nat.lt_of_lt_of_le (Heap.lt_size e) z) (Nat.lt_irrefl _)
  have cellK : ∀ x c, X.env.cells.lookup x = some c → ∀ v, s.heap.IsCell c v → h'.IsCell c v := fun x c e v ⟨o, ho, hd⟩ => by
    have nch : c ∉ ch := fun z => (hch c z).2.2.1 x c e rfl
    by_cases hc : c ∈ X.fs
    · obtain ⟨sl, q⟩ := slot c o (I.cne x c e) hc nch ho (I.freeC x c e)
      exact ⟨_, q, hd⟩
    · exact ⟨o, keep c o (I.cne x c e) hc nch ho (I.freeC x c e), hd⟩
  refine ⟨I.ok, I.os, hg, ⟨fun b o e n hb hx => ?_, fun b o e n hb hx => ?_, fun b o e n hx => ?_, fun b o e hx => ?_, fun b xs e => tups b xs (I.base.tups b xs e), fun b o xs e => frzs b o xs (I.base.frzs b o xs e), fun b ps e => ?_⟩, ?_, fun x c e => ?_, ?_, fun x c e => ?_, fun p hp => ?_, hok, I.len⟩
  · exact keep b o (neL b o e) hb (neC b o e hx) (I.base.keep b o e n hb hx) (I.base.free b o e n hx)
  · obtain ⟨sl, e1⟩ := I.base.slot b o e n hb hx
    obtain ⟨sl', e2⟩ := slot b _ (neL b o e) hb (neC b o e hx) e1 (I.base.free b o e n hx)
    exact ⟨sl', e2⟩
  · obtain ⟨o', e1⟩ := I.base.there b o e hx
    exact free b o' (neC b o e hx) e1 (I.base.free b o e n hx)
  · obtain ⟨o', e1⟩ := I.base.there b o e hx
    exact there b o' (neC b o e hx) e1
  · obtain ⟨m1, e1⟩ := I.base.tbls b ps e
    obtain ⟨m2, e2⟩ := tbls b _ e1
    exact ⟨m1 ++ m2, by rw [e2, Array.append_assoc]⟩
  · obtain ⟨m, hn, hl⟩ := I.loc
    refine ⟨m, ns m hn, fun i x v e1 e2 e3 => ?_⟩
    obtain ⟨u, r, l⟩ := hl i x v e1 e2 e3
    refine ⟨u, r, ?_⟩
    rcases l with l | ⟨k, c, e, z⟩
    · exact .inl l
    · exact .inr ⟨k, c, e, cellK x c e _ z⟩
  · obtain ⟨v, z⟩ := I.cell x c e
    exact ⟨v, cellK x c e v z⟩
  · obtain ⟨m, ⟨o, _, _, ho, _⟩, _⟩ := I.loc
    exact free _ o (fun z => (hch _ z).2.1 rfl) ho I.free
  · obtain ⟨v, o, ho, hd⟩ := I.cell x c e
    exact free c o (fun z => (hch c z).2.2.1 x c e rfl) ho (I.freeC x c e)
  · obtain ⟨e, n, ne, nf, d⟩ := I.pin p hp
    have nch : p.1 ∉ ch := fun z => (hch p.1 z).2.2.2 p hp rfl
    exact ⟨keep p.1 p.2 ne nf nch e n, free p.1 p.2 nch e n, ne, nf, d⟩
theorem Inv.un {t' : Nat} (I : Inv X pins σ H s) (u : Un X.fs [] H H' s.heap h') (hok : HOk X.prog X.w H' h') : Inv X pins σ H' { s with heap := h', toks := t' } := by
  obtain ⟨m, ⟨o, es, ep, ho, r⟩, _⟩ := id I.loc
  obtain ⟨sl, hL⟩ := u.any ho I.free (by simp)
  exact I.step (g' := s.gens) (d' := s.drawn) (ch := []) (fun _ z => nomatch z) (fun b o _ hb _ e n => u.keep b o e n hb (by simp)) (fun b o _ hb _ e n => u.slot b o e n hb (by simp)) (fun b o _ e n => u.free b o e n (by simp)) (fun b o _ e => u.there b o e (by simp)) u.tups u.frzs u.tbls (fun m' hm => by
    obtain ⟨o', es', ep', ho', r'⟩ := hm
    rw [ho] at ho'; cases ho'
    exact ⟨_, es', ep', hL, r'⟩) hok I.bare
theorem Inv.call {g' : Array GenState} {t' : Nat} {d' : Drawn} {ch : List Addr} (I : Inv X pins σ H s) (u : Un (frs X.stack) ch H H' s.heap h') (hok : HOk X.prog X.w H' h') (hg : AllBare g')
    (hch : ∀ b ∈ ch, (b ∈ X.ex ∨ X.s₀.heap.objs.size ≤ b) ∧ b ≠ X.env.locals ∧ (∀ x c, X.env.cells.lookup x = some c → c ≠ b) ∧ ∀ p ∈ X.pn ++ pins, p.1 ≠ b) :
    Inv X pins σ H' { s with heap := h', gens := g', drawn := d', toks := t' } := by
  obtain ⟨m, ⟨o, es, ep, ho, r⟩, _⟩ := id I.loc
  obtain ⟨sl, hL⟩ := u.any ho I.free fun z => (hch _ z).2.1 rfl
  exact I.step (ch := ch) hch (fun b o hL hb hc e n => u.keep b o e n (fun z => (List.mem_cons.mp (I.stkSub b z)).elim hL hb) hc) (fun b o _ _ hc e n => u.any e n hc) (fun b o hc e n => u.free b o e n hc) (fun b o hc e => u.there b o e hc) u.tups u.frzs u.tbls (fun m' hm => by
    obtain ⟨o', es', ep', ho', r'⟩ := hm
    rw [ho] at ho'; cases ho'
    exact ⟨_, es', ep', hL, r'⟩) hok hg
theorem Inv.turned {t' : Nat} {it : Addr} (I : Inv X pins σ H s) (k : ∀ b o, b ≠ it → s.heap.get? b = some o → h'.get? b = some o) (hn : H it = none) (hL : it ≠ X.env.locals)
    (h1 : it ∈ X.ex ∨ X.s₀.heap.objs.size ≤ it) (h2 : ∀ x c, X.env.cells.lookup x = some c → c ≠ it) (h3 : ∀ p ∈ X.pn ++ pins, p.1 ≠ it) : Inv X pins σ H { s with heap := h', toks := t' } := by
  have nit : ∀ b u, H b = some u → b ≠ it := fun b u e z => by rw [z, hn] at e; cases e
  refine I.step (g' := s.gens) (d' := s.drawn) (ch := [it]) (fun b hb => ?_) (fun b o _ _ hc e _ => k b o (fun z => hc (by simp [z])) e) (fun b o _ _ hc e _ => ⟨o.slots, k b o (fun z => hc (by simp [z])) e⟩) (fun _ _ _ _ n => n)
    (fun b o hc e => ⟨o, k b o (fun z => hc (by simp [z])) e⟩) (fun _ _ e => e) (fun _ _ _ e => e) (fun b ps e => ⟨#[], by rw [e]; simp⟩) (fun m hm => ?_) (fun b u e => ?_) I.bare
  · have e : b = it := by simpa using hb
    subst e
    exact ⟨h1, hL, h2, h3⟩
  · obtain ⟨o, es, ep, ho, r⟩ := hm
    exact ⟨o, es, ep, k _ o (Ne.symm hL) ho, r⟩
  · refine (I.hok b u e).stay (fun c v hc q => k c v ?_ q) (fun _ q => q) fun _ _ q => q
    rcases hc with z | z
    · rw [z]; exact nit b u e
    · exact nit c _ z
theorem Inv.tok (I : Inv X pins σ H s) (t : Nat) : Inv X pins σ H { s with toks := t } := I.un (h' := s.heap) (t' := t) Un.refl I.hok
theorem Inv.kept {t' : Nat} (I : Inv X pins σ H s) (k : ∀ b u, s.heap.get? b = some u → h'.get? b = some u) : Inv X pins σ H { s with heap := h', toks := t' } := I.un (Un.kept k) (I.hok.kept k)
theorem Inv.laid {a : Addr} {o : HO} {t' : Nat} (I : Inv X pins σ H s) (k : ∀ b u, s.heap.get? b = some u → h'.get? b = some u) (hp : s.heap.objs.size ≤ a) (new : ObjOk X.prog X.w (upd H a o) h' a o) :
    Inv X pins σ (upd H a o) { s with heap := h', toks := t' } := I.un (Un.laid k hp (I.hok.fresh hp)) (I.hok.laid k hp new)
theorem Inv.write {x e : Addr} {o : HO} {t' : Nat} (I : Inv X pins σ H s) (mu : Mut (H x)) (he : e = x ∨ H e = some (.own x)) (k : ∀ b u, b ≠ e → s.heap.get? b = some u → h'.get? b = some u) (heo : ∃ u, h'.get? e = some u)
    (new : ObjOk X.prog X.w (upd H x o) h' x o) : Inv X pins σ (upd H x o) { s with heap := h', toks := t' } := I.un (Un.write mu he k heo) (I.hok.write mu he k heo new)
theorem Inv.pins_of {pins' : List (Addr × Obj)} (I : Inv X pins σ H s) (h : ∀ p ∈ pins', s.heap.get? p.1 = some p.2 ∧ H p.1 = none ∧ p.1 ≠ X.env.locals ∧ p.1 ∉ X.fs ∧ ∀ v, p.2.data ≠ .cell v) : Inv X pins' σ H s :=
  ⟨I.ok, I.os, I.bare, I.base, I.loc, I.cell, I.free, I.freeC, fun p hp => (List.mem_append.mp hp).elim (fun z => I.pin p (List.mem_append_left _ z)) (h p), I.hok, I.len⟩
theorem nodup_ix {N : List Str} (hN : N.Nodup) {i j : Nat} {x : Str} (a : N[i]? = some x) (b : N[j]? = some x) : i = j := by
  obtain ⟨h1, e1⟩ := List.getElem?_eq_some_iff.mp a
  obtain ⟨h2, e2⟩ := List.getElem?_eq_some_iff.mp b
  exact (List.getElem_inj hN).mp (e1.trans e2.symm)
theorem store_ok2 {M : Model} {A : Around} {E : Value → Shared → Prop} {i : Nat} {x : Str} {v : V} {u : Value} {Q : Unit → Shared → Prop} (I : Inv X pins σ H s) (hN : X.N.Nodup) (hi : X.N[i]? = some x) (hx : Loc X.env.scope x) (r : RelV v u)
    (h : ∀ s', Inv X pins (σ.set i (some v)) H s' → (∃ a, Heap.SameBut a s.heap s'.heap ∧ (a = X.env.locals ∨ X.env.cells.lookup x = some a)) → Q () s') (hf : X.fn x = true ∨ X.env.scope.names.lookup x = some .local := by first | exact .inl rfl | exact .inr rfl | assumption) : wpAny M A (storeName X.env x u) Q E s := by
  obtain ⟨m, hn, hl⟩ := id I.loc
  have hcls : (X.env.scope.kind == .class || (X.env.scope.kind == .module && X.env.locals != X.env.globals)) = false := by rw [I.ok.kind]; rfl
  have hiσ : i < σ.length := by rw [I.len]; exact (List.getElem?_eq_some_iff.mp hi).1
  have cne := I.cne
  have tracked : ∀ {a : Addr} {h' : Heap}, (∃ o, s.heap.get? a = some o ∧ H a = none) → Heap.SameBut a s.heap h' → HOk X.prog X.w H h' := fun {a h'} ha hs b ob e => by
    obtain ⟨_, _, hfree⟩ := ha
    refine (I.hok b ob e).stay (fun c w' hc q => (hs.2 c ?_).trans q) (fun _ q => q) fun _ _ q => q
    rintro rfl
    rcases hc with rfl | hc
    · rw [hfree] at e; cases e
    · rw [hfree] at hc; cases hc
  rcases hx with hk | hk
  · refine wpAny_storeName_local hk hn (fun h' hn' hs => ?_) hcls
    obtain ⟨oL, _, _, hoL, _⟩ := id hn
    refine h _ ⟨I.ok, I.os, I.bare, ⟨fun b o e n hb hx => ?_, fun b o e n hb hx => ?_, I.base.free, fun b o e hx => ?_, I.base.tups, I.base.frzs, I.base.tbls⟩, ⟨_, hn', fun j y v' e1 e2 e3 => ?_⟩, fun y c e => ?_, I.free, I.freeC, fun p hp => ?_, tracked ⟨oL, hoL, I.free⟩ hs, by simpa using I.len⟩ ⟨_, hs, .inl rfl⟩
    · exact (hs.2 b (Nat.ne_of_lt (Nat.lt_of_lt_of_le (Heap.lt_size e) I.ok.above))).trans (I.base.keep b o e n hb hx)
    · obtain ⟨sl, e1⟩ := I.base.slot b o e n hb hx
      exact ⟨sl, (hs.2 b (Nat.ne_of_lt (Nat.lt_of_lt_of_le (Heap.lt_size e) I.ok.above))).trans e1⟩
    · obtain ⟨o', e1⟩ := I.base.there b o e hx
      exact ⟨o', (hs.2 b (Nat.ne_of_lt (Nat.lt_of_lt_of_le (Heap.lt_size e) I.ok.above))).trans e1⟩
    · by_cases hj : j = i
      · subst hj
        rw [hi] at e1; cases e1
        rw [List.getElem?_set_self hiσ] at e2
        cases e2
        exact ⟨u, r, .inl ⟨hk, by simp⟩⟩
      · rw [List.getElem?_set_ne (Ne.symm hj)] at e2
        obtain ⟨u', r', q⟩ := hl j y v' e1 e2 e3
        refine ⟨u', r', ?_⟩
        rcases q with ⟨k, e⟩ | ⟨k, c, e, z⟩
        · refine .inl ⟨k, ?_⟩
          have : y ≠ x := fun e => hj (nodup_ix hN e1 (e ▸ hi))
          simp [this, e]
        · exact .inr ⟨k, c, e, z.sameBut hs (cne y c e)⟩
    · obtain ⟨w', z⟩ := I.cell y c e
      exact ⟨w', z.sameBut hs (cne y c e)⟩
    · obtain ⟨e, n, ne, nf, d⟩ := I.pin p hp
      exact ⟨(hs.2 p.1 ne).trans e, n, ne, nf, d⟩
  · have hfn : X.fn x = true := by
      rcases hf with z | z
      · exact z
      · rw [z] at hk; cases hk
    obtain ⟨c, hc⟩ := I.ok.has x (.inl hk)
    obtain ⟨w', z⟩ := I.cell x c hc
    refine wpAny_storeName_cell I.ok.kind hk hc z (fun h' hc' hs => ?_)
    obtain ⟨oc, hoc, hocd⟩ := id z
    refine h { s with heap := h' } ⟨I.ok, I.os, I.bare, ⟨fun b o e n hb hx => ?_, fun b o e n hb hx => ?_, I.base.free, fun b o e hx => ?_, I.base.tups, I.base.frzs, I.base.tbls⟩, ⟨m, hn.sameBut hs (Ne.symm (cne x c hc)), fun j y v' e1 e2 e3 => ?_⟩, fun y c' e => ?_, I.free, I.freeC, fun p hp => ?_, tracked ⟨oc, hoc, I.freeC x c hc⟩ hs, by simpa using I.len⟩ ⟨c, hs, .inr hc⟩
    · exact (hs.2 b (Nat.ne_of_lt (Nat.lt_of_lt_of_le (Heap.lt_size e) (I.ok.cab x c hfn hc)))).trans (I.base.keep b o e n hb hx)
    · obtain ⟨sl, e1⟩ := I.base.slot b o e n hb hx
      exact ⟨sl, (hs.2 b (Nat.ne_of_lt (Nat.lt_of_lt_of_le (Heap.lt_size e) (I.ok.cab x c hfn hc)))).trans e1⟩
    · obtain ⟨o', e1⟩ := I.base.there b o e hx
      exact ⟨o', (hs.2 b (Nat.ne_of_lt (Nat.lt_of_lt_of_le (Heap.lt_size e) (I.ok.cab x c hfn hc)))).trans e1⟩
    · by_cases hj : j = i
      · subst hj
        rw [hi] at e1; cases e1
        rw [List.getElem?_set_self hiσ] at e2
        cases e2
        exact ⟨u, r, .inr ⟨.inl hk, c, hc, hc'⟩⟩
      · rw [List.getElem?_set_ne (Ne.symm hj)] at e2
        obtain ⟨u', r', q⟩ := hl j y v' e1 e2 e3
        refine ⟨u', r', ?_⟩
        rcases q with q | ⟨k, c', e, z'⟩
        · exact .inl q
        · refine .inr ⟨k, c', e, z'.sameBut hs ?_⟩
          rintro rfl
          exact hj (nodup_ix hN e1 (I.ok.inj _ _ _ e hc ▸ hi))
    · by_cases hcc : c' = c
      · subst hcc; exact ⟨_, hc'⟩
      · obtain ⟨w2, z2⟩ := I.cell y c' e
        exact ⟨w2, z2.sameBut hs hcc⟩
    · obtain ⟨e, n, ne, nf, d⟩ := I.pin p hp
      refine ⟨(hs.2 p.1 ?_).trans e, n, ne, nf, d⟩
      intro q
      rw [q, hoc] at e
      have q' : oc = p.2 := Option.some.inj e
      exact d w' (by rw [← q']; exact hocd)
theorem store_ok {M : Model} {A : Around} {E : Value → Shared → Prop} {i : Nat} {x : Str} {v : V} {u : Value} {Q : Unit → Shared → Prop} (I : Inv X pins σ H s) (hN : X.N.Nodup) (hi : X.N[i]? = some x) (hx : Loc X.env.scope x) (r : RelV v u)
    (h : ∀ s', Inv X pins (σ.set i (some v)) H s' → Q () s') (hf : X.fn x = true ∨ X.env.scope.names.lookup x = some .local := by first | exact .inl rfl | exact .inr rfl | assumption) : wpAny M A (storeName X.env x u) Q E s :=
  store_ok2 I hN hi hx r (fun s' I' _ => h s' I') hf
theorem Inv.call' {s' : Shared} {ch : List Addr} (I : Inv X pins σ H s) (ho : s'.os = s.os) (u : Un (frs X.stack) ch H H' s.heap s'.heap) (hok : HOk X.prog X.w H' s'.heap) (hg : AllBare s'.gens)
    (hch : ∀ b ∈ ch, (b ∈ X.ex ∨ X.s₀.heap.objs.size ≤ b) ∧ b ≠ X.env.locals ∧ (∀ x c, X.env.cells.lookup x = some c → c ≠ b) ∧ ∀ p ∈ X.pn ++ pins, p.1 ≠ b) : Inv X pins σ H' s' := by
  obtain ⟨h', g', d', t', o'⟩ := s'
  have e : o' = s.os := ho
  subst e
  exact I.call (g' := g') (t' := t') (d' := d') u hok hg hch
end
noncomputable abbrev XK := Value → Option Addr → Hp → Prop
noncomputable abbrev St := List (Option V)
noncomputable abbrev VK := V → Hp → Prop
noncomputable abbrev TE := St → Hp → VK → Prop
noncomputable abbrev TT := St → Hp → (Bool → Hp → Prop) → Prop
noncomputable abbrev TA := St → Hp → (List V → Hp → Prop) → Prop
structure Ends where
  nx : St → Hp → Prop
  rt : VK
  bk : St → Hp → Prop := fun _ _ => False
  ct : St → Hp → Prop := fun _ _ => False
noncomputable abbrev TS := Ends → St → Hp → Prop
noncomputable def EP (X : Cx) (pins : List (Addr × Obj)) (σ : St) (Q : VK) (u : Value) (s' : Shared) : Prop := ∃ v H', Inv X pins σ H' s' ∧ RelV v u ∧ Q v H'
noncomputable def TP (X : Cx) (pins : List (Addr × Obj)) (σ : St) (Q : Bool → Hp → Prop) (b : Bool) (s' : Shared) : Prop := ∃ H', Inv X pins σ H' s' ∧ Q b H'
noncomputable def AP (X : Cx) (pins : List (Addr × Obj)) (σ : St) (Q : List V → Hp → Prop) (us : List Value) (s' : Shared) : Prop := ∃ vs H', Inv X pins σ H' s' ∧ Vals vs us ∧ Q vs H'
noncomputable def SP (X : Cx) (pins : List (Addr × Obj)) (D : Ends) (f : Flow) (s' : Shared) : Prop :=
  match f with
  | .next => ∃ σ' H', Inv X pins σ' H' s' ∧ D.nx σ' H'
  | .brk => ∃ σ' H', Inv X pins σ' H' s' ∧ D.bk σ' H'
  | .cont => ∃ σ' H', Inv X pins σ' H' s' ∧ D.ct σ' H'
  | .ret u => ∃ v σ' H', Inv X pins σ' H' s' ∧ RelV v u ∧ D.rt v H'
noncomputable def PE (X : Cx) (e : Expr) (t : TE) : Prop :=
  ∀ (pins : List (Addr × Obj)) (s : Shared) (σ : St) (H : Hp) (Q : VK), Inv X pins σ H s → t σ H Q → wpAny (model X.prog X.w) X.A (eval e X.env) (EP X pins σ Q) X.xe s
noncomputable def PT (X : Cx) (e : Expr) (t : TT) : Prop :=
  ∀ (pins : List (Addr × Obj)) (s : Shared) (σ : St) (H : Hp) (Q : Bool → Hp → Prop), Inv X pins σ H s → t σ H Q → wpAny (model X.prog X.w) X.A (isTrue e X.env (eval e X.env)) (TP X pins σ Q) X.xe s
noncomputable def PW (X : Cx) (e : Expr) (t : TT) : Prop :=
  ∀ (whole : Sem Value) (pins : List (Addr × Obj)) (s : Shared) (σ : St) (H : Hp) (Q : Bool → Hp → Prop), Inv X pins σ H s → t σ H Q → wpAny (model X.prog X.w) X.A (isTrue e X.env whole) (TP X pins σ Q) X.xe s
theorem PW.pt {X : Cx} {e : Expr} {t : TT} (h : PW X e t) : PT X e t := h _
noncomputable def PA (X : Cx) (es : List Expr) (t : TA) : Prop :=
  ∀ (pos : Pos) (pins : List (Addr × Obj)) (s : Shared) (σ : St) (H : Hp) (Q : List V → Hp → Prop), Inv X pins σ H s → t σ H Q → wpAny (model X.prog X.w) X.A (spliced (backTo pos (starEach es X.env))) (AP X pins σ Q) X.xe s
noncomputable def PS (X : Cx) (st : Stmt) (t : TS) : Prop :=
  ∀ (pins : List (Addr × Obj)) (s : Shared) (σ : St) (H : Hp) (D : Ends), Inv X pins σ H s → t D σ H → wpAny (model X.prog X.w) X.A (exec st X.env) (SP X pins D) X.xe s
noncomputable def PSs (X : Cx) (st : List Stmt) (t : TS) : Prop :=
  ∀ (pins : List (Addr × Obj)) (s : Shared) (σ : St) (H : Hp) (D : Ends), Inv X pins σ H s → t D σ H → wpAny (model X.prog X.w) X.A (execs st X.env) (SP X pins D) X.xe s
theorem thn {α : Type} {t : Sem α} {Q Q' : α → Shared → Prop} {M : Model} {A : Around} {E : Value → Shared → Prop} {s : Shared} (h : wpAny M A t Q E s) (hQ : ∀ a s, Q a s → Q' a s) : wpAny M A t Q' E s := wpAny_mono h hQ fun _ _ x => x
end L2
namespace L2
open PySem PySem.Spec PyProof.Rows
section
variable {X : Cx}
noncomputable def tVar (i : Nat) : TE := fun σ H Q => ∃ v, σ[i]? = some (some v) ∧ Q v H
noncomputable def tC (v : V) : TE := fun _ H Q => Q v H
theorem pe_var {i : Nat} {x : Str} {pos : Pos} (hN : X.N[i]? = some x) (hv : Vis X.env.scope x) (hd : (x == ("__debug__" : Str)) = false := by decide) (hcd : (x == ("__classdict__" : Str)) = false := by decide) : PE X (.Name x pos) (tVar i) := by
  intro pins s σ H Q I h
  obtain ⟨v, e, h⟩ := h
  obtain ⟨m, hn, hl⟩ := I.loc
  obtain ⟨u, r, l⟩ := hl i x v hN e hv
  have fin : EP X pins σ Q u s := ⟨v, H, I, r, h⟩
  rcases l with ⟨hk, hm⟩ | ⟨hk, c, hc, hcell⟩
  · exact wpAny_Name (wpAny_loadName_local I.ok.kind hk hn hm fin) hd
  · rcases hk with hk | hk
    · exact wpAny_Name (wpAny_loadName_cell I.ok.kind hk hc hcell fin) hd
    · exact wpAny_Name (wpAny_loadName_free I.ok.kind hk hc hcell fin hcd) hd
theorem pe_int {i j pos} : PE X (.Constant (.int i) j pos) (tC (.int i)) := fun _ _ _ H _ I h => wpAny_Constant_int ⟨.int i, H, I.tok _, ⟨_, rfl⟩, h⟩
theorem pe_bl {b j pos} : PE X (.Constant (.bool b) j pos) (tC (.bl b)) := fun _ _ _ H _ I h => Constant_bool ⟨.bl b, H, I, rfl, h⟩
theorem pe_non {j pos} : PE X (.Constant .none j pos) (tC .non) := fun _ _ _ H _ I h => Constant_none ⟨.non, H, I, rfl, h⟩
theorem pe_str {x j pos} : PE X (.Constant (.str x) j pos) (tC (.str x)) := fun _ _ _ H _ I h => Calls.Constant_str ⟨.str x, H, I.tok _, ⟨_, rfl⟩, h⟩
noncomputable def Gl (X : Cx) (x : Str) : Prop := X.env.kindOf x = some .globalImplicit
theorem ld_glob {E : Value → Shared → Prop} {pins : List (Addr × Obj)} {s : Shared} {σ : St} {H : Hp} {x : Str} {u : Value} {pos : Pos} {Q : Value → Shared → Prop} (I : Inv X pins σ H s) (hg : Gl X x) (hm : X.mg x = some u) (h : Q u s)
    (hd : (x == ("__debug__" : Str)) = false := by decide) : wpAny (model X.prog X.w) X.A (eval (.Name x pos) X.env) Q E s :=
  Calls.Name_function_global I.ok.kind hg (Calls.loadGlobal_global (by rw [I.ok.glob]; exact I.mod.glob.keeps I.bk) hm h) hd
theorem ld_blt {E : Value → Shared → Prop} {pins : List (Addr × Obj)} {s : Shared} {σ : St} {H : Hp} {x : Str} {u : Value} {pos : Pos} {Q : Value → Shared → Prop} (I : Inv X pins σ H s) (hg : Gl X x) (hm : X.mg x = none) (hv : bootBuiltins x = some u) (h : Q u s)
    (hn : x ≠ "__name__" := by decide) (hd : (x == ("__debug__" : Str)) = false := by decide) : wpAny (model X.prog X.w) X.A (eval (.Name x pos) X.env) Q E s := by
  obtain ⟨mb, h1, h2⟩ := I.mod.blt
  exact Calls.Name_function_global I.ok.kind hg (Calls.loadGlobal_builtin (by rw [I.ok.glob]; exact I.mod.glob.keeps I.bk) hm (by rw [I.ok.blt]; exact h1.keeps I.bk) ((h2 x hn).trans hv) h) hd
theorem pe_bltn {x : Str} {v : V} {u : Value} {pos : Pos} (hg : Gl X x) (hm : X.mg x = none) (hv : bootBuiltins x = some u) (r : RelV v u) (hn : x ≠ "__name__" := by decide) (hd : (x == ("__debug__" : Str)) = false := by decide) : PE X (.Name x pos) (tC v) :=
  fun _ _ _ H _ I h => ld_blt I hg hm hv ⟨v, H, I, r, h⟩ hn hd
variable {a b : Expr} {ta tb : TE} {pos : Pos}
noncomputable def tB (t : TE) : TT := fun σ H Q => t σ H fun x H1 => ∃ c, x = .bl c ∧ Q c H1
theorem pt_val {e : Expr} {t : TE} (h : PE X e t) (he : ∀ whole, isTrue e X.env whole = (do let v ← whole; standAt e.pos; holding [v] (truthy v)) := by intro _; rfl) : PT X e (tB t) := by
  intro pins s σ H Q I hw
  refine isTrue_plain (thn (h pins s σ H _ I hw) fun v s1 ⟨x, H1, I1, r1, q1⟩ => ?_) (he _)
  obtain ⟨d, rfl, q⟩ := q1
  cases r1
  exact wpAny_truthy_bool ⟨H1, I1, q⟩
variable {tA tB' : TT} {rest : List Expr}
noncomputable def tAnd (t u : TT) : TT := fun σ H Q => t σ H fun c H1 => if c = true then u σ H1 Q else Q false H1
noncomputable def tOr (t u : TT) : TT := fun σ H Q => t σ H fun c H1 => if c = true then Q true H1 else u σ H1 Q
noncomputable def tNot (t : TT) : TT := fun σ H Q => t σ H fun c H1 => Q (!c) H1
theorem pw_and1 (ha : PT X a tA) : PW X (.BoolOp .And [a] pos) tA := by
  intro wh pins s σ H Q I h
  refine isTrue_and (thn (ha pins s σ H Q I h) fun c s1 e => ?_)
  cases c with
  | true => exact isTrue_and_nil e
  | false => exact e
theorem pw_or1 (ha : PT X a tA) : PW X (.BoolOp .Or [a] pos) tA := by
  intro wh pins s σ H Q I h
  refine isTrue_or (thn (ha pins s σ H Q I h) fun c s1 e => ?_)
  cases c with
  | false => exact isTrue_or_nil e
  | true => exact e
theorem pw_and (ha : PT X a tA) (hb : PW X (.BoolOp .And (b :: rest) pos) tB') : PW X (.BoolOp .And (a :: b :: rest) pos) (tAnd tA tB') := by
  intro wh pins s σ H Q I h
  refine isTrue_and (thn (ha pins s σ H _ I h) fun c s1 ⟨H1, I1, q1⟩ => ?_)
  cases c with
  | true => exact hb wh pins s1 σ H1 Q I1 q1
  | false => exact ⟨H1, I1, q1⟩
theorem pw_or (ha : PT X a tA) (hb : PW X (.BoolOp .Or (b :: rest) pos) tB') : PW X (.BoolOp .Or (a :: b :: rest) pos) (tOr tA tB') := by
  intro wh pins s σ H Q I h
  refine isTrue_or (thn (ha pins s σ H _ I h) fun c s1 ⟨H1, I1, q1⟩ => ?_)
  cases c with
  | true => exact ⟨H1, I1, q1⟩
  | false => exact hb wh pins s1 σ H1 Q I1 q1
theorem pt_not (ha : PT X a tA) : PT X (.UnaryOp .Not a pos) (tNot tA) := by
  intro pins s σ H Q I h
  exact isTrue_not (ha pins s σ H (fun c H1 => Q (!c) H1) I h)
noncomputable def tAndV (ta tb : TE) : TE := fun σ H Q => ta σ H fun x H1 => ∃ c, x = .bl c ∧ if c = true then tb σ H1 Q else Q (.bl false) H1
noncomputable def tNotV (ta : TE) : TE := fun σ H Q => ta σ H fun x H1 => ∃ c, x = .bl c ∧ Q (.bl (!c)) H1
theorem pe_one {op} {t : TE} (h : PE X a t) : PE X (.BoolOp op [a] pos) t := fun pins s σ H Q I hw => BoolOp_one (h pins s σ H Q I hw)
theorem pe_and (ha : PE X a ta) (hb : PE X (.BoolOp .And (b :: rest) pos) tb) : PE X (.BoolOp .And (a :: b :: rest) pos) (tAndV ta tb) := by
  intro pins s σ H Q I h
  refine BoolOp_and (thn (ha pins s σ H _ I h) fun v s1 ⟨x, H1, I1, r1, q1⟩ => ?_)
  obtain ⟨c, rfl, q1⟩ := q1
  cases r1
  refine wpAny_truthy_bool ?_
  cases c with
  | true => exact hb pins s1 σ H1 Q I1 q1
  | false => exact ⟨.bl false, H1, I1, rfl, q1⟩
theorem pe_not (ha : PE X a ta) : PE X (.UnaryOp .Not a pos) (tNotV ta) := by
  intro pins s σ H Q I h
  refine UnaryOp_ (thn (ha pins s σ H _ I h) fun v s1 ⟨x, H1, I1, r1, q1⟩ => ?_)
  obtain ⟨c, rfl, q1⟩ := q1
  cases r1
  exact not_of (wpAny_truthy_bool ⟨.bl (!c), H1, I1, rfl, q1⟩)
end
end L2
namespace L2
open PySem PySem.Spec PyProof.Rows
noncomputable def SqL (K : PySem.W.Frag) (H : Hp) (a : Addr) (xs : List V) : Prop :=
  Rd H a (.lst xs) ∨
    ∃ (o : Obj) (its : Array Value) (n : Nat), K.lookup a = some o ∧ o.cls = .type "list" ∧ o.dict = none ∧ o.data = .seq its n ∧ its.size ≤ sizeLine ∧ Vals xs its.toList
noncomputable def SqT (K : PySem.W.Frag) (H : Hp) (a : Addr) (xs : List V) : Prop :=
  Rd H a (.tup xs) ∨
    ∃ (o : Obj) (its : Array Value) (n : Nat), K.lookup a = some o ∧ o.cls = .type "tuple" ∧ o.data = .seq its n ∧ its.size ≤ sizeLine ∧ Vals xs its.toList
noncomputable def absV : Value → Option V
  | .none => some .non
  | .bool b => some (.bl b)
  | .int i _ => some (.int i)
  | .str x _ => some (.str x)
  | .bytes b _ => some (.byt b)
  | .float b _ => some (.flt b)
  | .ref a => some (.ref a)
  | .type n => some (.ty n)
  | _ => none
theorem RelV.abs {x : V} {u : Value} (r : RelV x u) : absV u = some x := by
  cases x with
  | non => cases r; rfl
  | bl _ => cases r; rfl
  | int _ => obtain ⟨t, rfl⟩ := r; rfl
  | str _ => obtain ⟨t, rfl⟩ := r; rfl
  | byt _ => obtain ⟨t, rfl⟩ := r; rfl
  | flt _ => obtain ⟨t, rfl⟩ := r; rfl
  | ref _ => cases r; rfl
  | ty _ => cases r; rfl
theorem RelV.inj {x y : V} {u : Value} (r : RelV x u) (q : RelV y u) : x = y := Option.some.inj (r.abs.symm.trans q.abs)
theorem Vals.inj : ∀ {xs ys : List V} {us : List Value}, Vals xs us → Vals ys us → xs = ys
  | _, _, _, .nil, .nil => rfl
  | _, _, _, .cons r t, .cons r' t' => by rw [r.inj r', Vals.inj t t']
section
variable {X : Cx} {pins : List (Addr × Obj)} {σ : St} {H : Hp} {s : Shared} {a : Addr} {xs ys : List V}
theorem SqL.of {K : PySem.W.Frag} (h : H a = some (.lst xs)) : SqL K H a xs := .inl (.inl h)
theorem SqT.of {K : PySem.W.Frag} (h : H a = some (.tup xs)) : SqT K H a xs := .inl (.inl h)
theorem Inv.list (I : Inv X pins σ H s) (h : SqL X.K H a xs) : ∃ its : List Value, Vals xs its ∧ PlainL s.heap a its.toArray ∧ xs.length ≤ sizeLine := by
  rcases h with h | ⟨o, its, n, hk, hc, hd, hs, hz, r⟩
  · obtain ⟨z, its, n, r, e⟩ := h.ok I.hok
    exact ⟨its, r, ⟨_, n, e, rfl, rfl, rfl⟩, z⟩
  · refine ⟨its.toList, r, ⟨o, n, I.kIn a o hk, hc, hd, by simpa using hs⟩, ?_⟩
    have e := r.length
    simp only [Array.length_toList] at e
    omega
theorem Inv.tuple (I : Inv X pins σ H s) (h : SqT X.K H a xs) : ∃ its : List Value, Vals xs its ∧ IsTup s.heap a its.toArray ∧ xs.length ≤ sizeLine := by
  rcases h with h | ⟨o, its, n, hk, hc, hs, hz, r⟩
  · obtain ⟨z, its, r, p⟩ := h.ok I.hok
    exact ⟨its, r, p, z⟩
  · refine ⟨its.toList, r, ⟨o, I.kIn a o hk, hc, n, by simpa using hs⟩, ?_⟩
    have e := r.length
    simp only [Array.length_toList] at e
    omega
theorem Inv.list_inj (I : Inv X pins σ H s) (h : SqL X.K H a xs) (h' : SqL X.K H a ys) : xs = ys := by
  obtain ⟨its, r, ⟨o, n, e, _, _, d⟩, _⟩ := I.list h
  obtain ⟨its', r', ⟨o', n', e', _, _, d'⟩, _⟩ := I.list h'
  rw [e] at e'; cases e'
  rw [d] at d'
  injection d' with d1 _
  have : its = its' := by simpa using congrArg Array.toList d1
  subst this
  exact r.inj r'
theorem Inv.tuple_inj (I : Inv X pins σ H s) (h : SqT X.K H a xs) (h' : SqT X.K H a ys) : xs = ys := by
  obtain ⟨its, r, ⟨o, e, _, n, d⟩, _⟩ := I.tuple h
  obtain ⟨its', r', ⟨o', e', _, n', d'⟩, _⟩ := I.tuple h'
  rw [e] at e'; cases e'
  rw [d] at d'
  injection d' with d1 _
  have : its = its' := by simpa using congrArg Array.toList d1
  subst this
  exact r.inj r'
end
noncomputable abbrev Cx.wish (X : Cx) (E : Value → Shared → Prop) : Cx := { X with xe := E }
noncomputable abbrev Cx.nox (X : Cx) : Cx := X.wish fun _ _ => False
theorem Cx.Ok.wish {X : Cx} (ok : X.Ok) (E : Value → Shared → Prop) : (X.wish E).Ok :=
  ⟨ok.mod, ok.kind, ok.glob, ok.blt, ok.above, ok.inj, ok.has, ok.cab, ok.hd, ok.frames, ok.stk, ok.exf, ok.bs, ok.bsz, ok.noex, ok.exfs, ok.funs, ok.frf⟩
theorem Cx.Ok.unwish {X : Cx} {E : Value → Shared → Prop} (ok : (X.wish E).Ok) : X.Ok :=
  ⟨ok.mod, ok.kind, ok.glob, ok.blt, ok.above, ok.inj, ok.has, ok.cab, ok.hd, ok.frames, ok.stk, ok.exf, ok.bs, ok.bsz, ok.noex, ok.exfs, ok.funs, ok.frf⟩
section
variable {X : Cx} {pins : List (Addr × Obj)} {σ : St} {H : Hp} {s : Shared} {E : Value → Shared → Prop}
theorem Inv.wish (I : Inv X pins σ H s) (E : Value → Shared → Prop) : Inv (X.wish E) pins σ H s := ⟨I.ok.wish E, I.os, I.bare, I.base, I.loc, I.cell, I.free, I.freeC, I.pin, I.hok, I.len⟩
theorem Inv.unwish (I : Inv (X.wish E) pins σ H s) : Inv X pins σ H s := ⟨I.ok.unwish, I.os, I.bare, I.base, I.loc, I.cell, I.free, I.freeC, I.pin, I.hok, I.len⟩
theorem SP.unwish {D : Ends} {f : Flow} {s' : Shared} (h : SP (X.wish E) pins D f s') : SP X pins D f s' := by
  cases f with
  | next => obtain ⟨σ', H', I, q⟩ := h; exact ⟨σ', H', I.unwish, q⟩
  | brk => obtain ⟨σ', H', I, q⟩ := h; exact ⟨σ', H', I.unwish, q⟩
  | cont => obtain ⟨σ', H', I, q⟩ := h; exact ⟨σ', H', I.unwish, q⟩
  | ret u => obtain ⟨v, σ', H', I, r, q⟩ := h; exact ⟨v, σ', H', I.unwish, r, q⟩
theorem PE.nox {e : Expr} {t : TE} (h : PE X.nox e t) : PE X e t := fun pins s σ H Q I hw =>
  wpAny_mono (h pins s σ H Q (I.wish _) hw) (fun _ _ ⟨v, H', I', r, q⟩ => ⟨v, H', I'.unwish, r, q⟩) fun _ _ z => False.elim z
theorem PT.nox {e : Expr} {t : TT} (h : PT X.nox e t) : PT X e t := fun pins s σ H Q I hw =>
  wpAny_mono (h pins s σ H Q (I.wish _) hw) (fun _ _ ⟨H', I', q⟩ => ⟨H', I'.unwish, q⟩) fun _ _ z => False.elim z
theorem PSs.nox {st : List Stmt} {t : TS} (h : PSs X.nox st t) : PSs X st t := fun pins s σ H D I hw =>
  wpAny_mono (h pins s σ H D (I.wish _) hw) (fun _ _ q => q.unwish) fun _ _ z => False.elim z
end
section
variable {X : Cx} {st : Stmt} {rest : List Stmt} {t u : TS} {e : Expr} {te : TE} {pos : Pos}
noncomputable def tNext : TS := fun D σ H => D.nx σ H
noncomputable def tSeq (t u : TS) : TS := fun D σ H => t { D with nx := u D } σ H
theorem pss_nil : PSs X [] tNext := fun _ _ σ H _ I h => wpAny_execs_nil ⟨σ, H, I, h⟩
theorem pss_cons (h1 : PS X st t) (h2 : PSs X rest u) : PSs X (st :: rest) (tSeq t u) := by
  intro pins s σ H D I h
  refine wpAny_execs_cons (thn (h1 pins s σ H { D with nx := u D } I h) fun f s1 q => ?_)
  cases f with
  | next =>
    obtain ⟨σ', H', I', q⟩ := q
    exact h2 pins s1 σ' H' D I' q
  | ret v => exact q
  | brk => exact q
  | cont => exact q
theorem pss_one (h1 : PS X st t) : PSs X [st] t := by
  intro pins s σ H D I h
  refine wpAny_execs_cons (thn (h1 pins s σ H D I h) fun f s1 q => ?_)
  cases f with
  | next => exact wpAny_execs_nil q
  | ret v => exact q
  | brk => exact q
  | cont => exact q
theorem Inv.quiet {pins : List (Addr × Obj)} {σ : St} {H : Hp} {s : Shared} (I : Inv X pins σ H s) : interactive X.env = false := by simp [interactive, I.ok.kind]
noncomputable def tDrop (te : TE) : TS := fun D σ H => te σ H fun _ H1 => D.nx σ H1
theorem ps_expr (he : PE X e te) (hs : swapsWith e none pos.line X.env = pure false := by rfl) : PS X (.Expr e pos) (tDrop te) := by
  intro pins s σ H D I h
  exact wpAny_Expr_any (thn (he pins s σ H _ I h) fun v s1 ⟨x, H1, I1, r1, q1⟩ => ⟨σ, H1, I1, q1⟩) I.quiet hs
noncomputable def tRet (te : TE) : TS := fun D σ H => te σ H D.rt
theorem ps_ret (he : PE X e te) : PS X (.Return (some e) pos) (tRet te) := by
  intro pins s σ H D I h
  exact wpAny_Return_some (thn (he pins s σ H _ I h) fun v s1 ⟨x, H1, I1, r1, q1⟩ => ⟨x, σ, H1, I1, r1, q1⟩)
noncomputable def tIfS (c : TT) (t u : TS) : TS := fun D σ H => c σ H fun b H1 => if b = true then t D σ H1 else u D σ H1
theorem ps_if {c : Expr} {a b : List Stmt} {tc : TT} (hc : PT X c tc) (ha : PSs X a t) (hb : PSs X b u) : PS X (.If c a b pos) (tIfS tc t u) := by
  intro pins s σ H D I h
  refine wpAny_If (thn (hc pins s σ H _ I h) fun d s1 ⟨H1, I1, q1⟩ => ?_)
  cases d with
  | true => exact ha pins s1 σ H1 D I1 q1
  | false => exact hb pins s1 σ H1 D I1 q1
end
noncomputable abbrev TG := V → St → Hp → (St → Hp → Prop) → Prop
noncomputable abbrev TGs := List V → St → Hp → (St → Hp → Prop) → Prop
noncomputable def PG (X : Cx) (target : Expr) (t : TG) : Prop :=
  ∀ (pins : List (Addr × Obj)) (s : Shared) (σ : St) (H : Hp) (v : V) (u : Value) (Q : St → Hp → Prop), Inv X pins σ H s → RelV v u → t v σ H Q →
    wpAny (model X.prog X.w) X.A (assign target X.env u) (fun _ s' => ∃ σ' H', Inv X pins σ' H' s' ∧ Q σ' H') X.xe s
noncomputable def PGs (X : Cx) (ts : List Expr) (t : TGs) : Prop :=
  ∀ (pins : List (Addr × Obj)) (s : Shared) (σ : St) (H : Hp) (vs : List V) (us : List Value) (Q : St → Hp → Prop), Inv X pins σ H s → Vals vs us → t vs σ H Q →
    wpAny (model X.prog X.w) X.A (assignInOrder ((assignEach ts X.env).map (·.2)) us) (fun _ s' => ∃ σ' H', Inv X pins σ' H' s' ∧ Q σ' H') X.xe s
section
variable {X : Cx} {pos : Pos}
noncomputable def gName (i : Nat) : TG := fun v σ H Q => Q (σ.set i (some v)) H
theorem pg_name {i : Nat} {x : Str} (hN : X.N.Nodup) (hi : X.N[i]? = some x) (hx : Loc X.env.scope x) (hf : X.fn x = true ∨ X.env.scope.names.lookup x = some .local := by first | exact .inl rfl | exact .inr rfl | assumption) : PG X (.Name x pos) (gName i) := by
  intro pins s σ H v u Q I r h
  exact wpAny_assign_Name (store_ok I hN hi hx r (fun s' I' => ⟨_, H, I', h⟩) hf)
noncomputable def gNil : TGs := fun vs σ H Q => vs = [] ∧ Q σ H
noncomputable def gCons (t : TG) (u : TGs) : TGs := fun vs σ H Q => ∃ v r, vs = v :: r ∧ t v σ H fun σ' H' => u r σ' H' Q
theorem pgs_nil : PGs X [] gNil := by
  intro pins s σ H vs us Q I r h
  obtain ⟨e, h⟩ := h
  subst e
  cases r
  exact assignInOrder_nil ⟨σ, H, I, h⟩
theorem pgs_cons {e : Expr} {es : List Expr} {t : TG} {u : TGs} (h1 : PG X e t) (h2 : PGs X es u)
    (hs : (assignEach (e :: es) X.env).map (·.2) = assign e X.env :: (assignEach es X.env).map (·.2) := by rfl) : PGs X (e :: es) (gCons t u) := by
  intro pins s σ H vs us Q I r h
  obtain ⟨v, vr, e1, h⟩ := h
  subst e1
  cases r with
  | cons r rr =>
    rw [hs]
    refine assignInOrder_cons (thn (h1 pins s σ H _ _ _ I r h) fun _ s1 ⟨σ1, H1, I1, q1⟩ => ?_)
    exact h2 pins s1 σ1 H1 _ _ Q I1 rr q1
noncomputable def gTup (K : PySem.W.Frag) (n : Nat) (t : TGs) : TG := fun v σ H Q => ∃ a xs, v = .ref a ∧ SqT K H a xs ∧ xs.length = n ∧ t xs σ H Q
theorem pg_tup {es : List Expr} {k : Nat} {t : TGs} {n : Nat} (hc : X.calm = true) (h : PGs X es t)
    (hn : (assignEach es X.env).length = n := by rfl) (hst : (assignEach es X.env).findIdx? (·.1) = none := by rfl) : PG X (.Tuple es k pos) (gTup X.K n t) := by
  intro pins s σ H v u Q I r hw
  obtain ⟨a, xs, e1, hq, hl, hw⟩ := hw
  subst e1
  cases r
  obtain ⟨its, rv, ht, hz⟩ := I.tuple hq
  refine assign_Tuple_tuple (I.ok.hd hc) ht (by simp [hn, ← hl, rv.length]) hst fun h' hx => ?_
  have I1 : Inv X pins σ H { s with heap := h' } := I.kept (t' := s.toks) fun b o e => hx b o (Nat.ne_of_lt (Heap.lt_size e)) e
  exact h pins _ σ H xs _ Q I1 (by simpa using rv) hw
noncomputable def tAsg (te : TE) (g : TG) : TS := fun D σ H => te σ H fun x H1 => g x σ H1 D.nx
theorem ps_set {i : Nat} {x : Str} {e : Expr} {te : TE} {pos' : Pos} (hN : X.N.Nodup) (hi : X.N[i]? = some x) (hx : Loc X.env.scope x) (he : PE X e te) (hs : swapsWith e (some (.Name x pos')) pos.line X.env = pure false := by rfl) (hf : X.fn x = true ∨ X.env.scope.names.lookup x = some .local := by first | exact .inl rfl | exact .inr rfl | assumption) :
    PS X (.Assign [.Name x pos'] e pos) (tAsg te (gName i)) := by
  intro pins s σ H D I h
  refine wpAny_Assign_Name (thn (he pins s σ H _ I h) fun v s1 ⟨y, H1, I1, r1, q1⟩ => ?_) hs
  exact store_ok I1 hN hi hx r1 (fun s2 I2 => ⟨_, H1, I2, q1⟩) hf
end
section
variable {X : Cx} {pos : Pos}
noncomputable def tWhile (c : TT) (tb : TS) : TS := fun D σ H => ∃ W : Nat → St → Hp → Prop, (∃ m, W m σ H) ∧ ∀ m σ H, W m σ H →
  c σ H fun b H1 => if b = true then ∃ N : St → Hp → Prop, (∀ σ' H', N σ' H' → ∃ m', m' < m ∧ W m' σ' H') ∧ tb { D with nx := N, ct := N, bk := D.nx } σ H1 else D.nx σ H1
theorem ps_while {c : Expr} {body : List Stmt} {tc : TT} {tb : TS} (hp : PassesOwn (model X.prog X.w) X.A X.env X.xe) (hc : PT X c tc) (hb : PSs X body tb) : PS X (.While c body [] pos) (tWhile tc tb) := by
  intro pins s σ H D I h
  obtain ⟨W, ⟨m0, w0⟩, turn⟩ := h
  refine wpAny_While (codeAny_whileLoop (fun n s' => ∃ σ' H', Inv X pins σ' H' s' ∧ W n σ' H') ?_ m0 ⟨σ, H, I, w0⟩)
  rintro n s1 ⟨σ1, H1, I1, w1⟩
  refine wpAny_passesOwn hp (thn (hc pins s1 σ1 H1 _ I1 (turn n σ1 H1 w1)) fun b s2 ⟨H2, I2, q2⟩ => ?_)
  cases b with
  | true =>
    obtain ⟨N, hN, q2⟩ := q2
    rw [if_pos rfl]
    refine wpAny_passesOwn hp (thn (hb pins s2 σ1 H2 _ I2 q2) fun f s3 q3 => ?_)
    cases f with
    | next =>
      obtain ⟨σ3, H3, I3, n3⟩ := q3
      obtain ⟨m', hm, w3⟩ := hN σ3 H3 n3
      exact ⟨m', hm, σ3, H3, I3, w3⟩
    | cont =>
      obtain ⟨σ3, H3, I3, n3⟩ := q3
      obtain ⟨m', hm, w3⟩ := hN σ3 H3 n3
      exact ⟨m', hm, σ3, H3, I3, w3⟩
    | brk => exact q3
    | ret v => exact q3
  | false =>
    rw [if_neg Bool.false_ne_true]
    exact wpAny_execs_nil ⟨σ1, H2, I2, q2⟩
end
structure It where
  go : Nat → Hp → Prop
  yld : Nat → Hp → V → Hp → Prop
  stop : Nat → Hp → Prop
noncomputable def FpOk (X : Cx) (pins : List (Addr × Obj)) (H : Hp) (b : Addr) : Prop :=
  H b = none ∧ b ≠ X.env.locals ∧ b ∉ X.fs ∧ (b ∈ X.ex ∨ X.s₀.heap.objs.size ≤ b) ∧ (∀ x c, X.env.cells.lookup x = some c → c ≠ b) ∧ ∀ p ∈ X.pn ++ pins, p.1 ≠ b
theorem Inv.fpOk {X : Cx} {pins : List (Addr × Obj)} {σ : St} {H H' : Hp} {s : Shared} {b : Addr} (I : Inv X pins σ H s) (hb : s.heap.objs.size ≤ b) (hn : H' b = none) : FpOk X pins H' b := by
  refine ⟨hn, Nat.ne_of_gt (Nat.lt_of_lt_of_le I.lt hb), I.nofs hb, .inr (Nat.le_trans I.sz hb), fun x c e z => ?_, fun p hp z => ?_⟩
  · obtain ⟨v, q⟩ := I.cell x c e
    exact absurd (Nat.lt_of_lt_of_le q.lt (by rw [z]; exact hb)) (Nat.lt_irrefl _)
  · exact absurd (Nat.lt_of_lt_of_le (Heap.lt_size (I.pin p hp).1) (by rw [z]; exact hb)) (Nat.lt_irrefl _)
structure Turn (P : Program) (w : World) (K : PySem.W.Frag) (tg : Expr) (J : It) (fp : List Addr) (it : Addr) (tn : Nat → Heap → Prop) : Prop where
  mem : it ∈ fp
  obj : ∀ i h, tn i h → ∀ b ∈ fp, ∃ o, h.get? b = some o ∧ ∀ v, o.data ≠ .cell v
  keep : ∀ i h h', tn i h → (∀ b ∈ fp, ∀ o, h.get? b = some o → h'.get? b = some o) → tn i h'
  item : ∀ (X : Cx), X.prog = P → X.w = w → X.K = K → X.calm = true → ∀ (i : Nat) (pins : List (Addr × Obj)) (s : Shared) (σ : St) (H : Hp) (E : Value → Shared → Prop), Inv X pins σ H s → (∀ b ∈ fp, FpOk X pins H b) → tn i s.heap → J.go i H →
    wpAny (model P w) X.A (pyNext (.ref it)) (fun r s1 => ∃ u, r = some u ∧
      wpAny (model P w) X.A (letOwnedTupleGo tg (.ref it) u) (fun _ s2 => ∃ x H', Inv X pins σ H' s2 ∧ RelV x u ∧ J.yld i H x H' ∧ tn (i + 1) s2.heap ∧ ∀ b ∈ fp, H' b = none) E s1) E s
  done : ∀ (X : Cx), X.prog = P → X.w = w → X.K = K → X.calm = true → ∀ (i : Nat) (pins : List (Addr × Obj)) (s : Shared) (σ : St) (H : Hp) (E : Value → Shared → Prop), Inv X pins σ H s → (∀ b ∈ fp, FpOk X pins H b) → tn i s.heap → J.stop i H →
    wpAny (model P w) X.A (pyNext (.ref it)) (fun r s1 => r = none ∧ Inv X pins σ H s1) E s
  self : ∀ (A : Around) (i : Nat) (s : Shared) (Q : Value → Shared → Prop) (E : Value → Shared → Prop), tn i s.heap → Q (.ref it) s → wpAny (model P w) A (pyIter (.ref it)) Q E s
noncomputable abbrev TI := St → Hp → (It → Hp → Prop) → Prop
noncomputable def PIE (X : Cx) (pins : List (Addr × Obj)) (σ : St) (tg : Expr) (R : It → Hp → Prop) (itv : Value) (s2 : Shared) : Prop :=
  ∃ (it : Addr) (fp : List Addr) (tn : Nat → Heap → Prop) (J : It) (H' : Hp), itv = .ref it ∧ Inv X pins σ H' s2 ∧ Turn X.prog X.w X.K tg J fp it tn ∧ tn 0 s2.heap ∧ (∀ b ∈ fp, FpOk X pins H' b) ∧ R J H'
noncomputable def PI (X : Cx) (tg iter : Expr) (wi : TI) : Prop :=
  ∀ (pins : List (Addr × Obj)) (s : Shared) (σ : St) (H : Hp) (R : It → Hp → Prop), Inv X pins σ H s → wi σ H R →
    wpAny (model X.prog X.w) X.A (eval iter X.env) (fun v s1 => wpAny (model X.prog X.w) X.A (pyIter v) (PIE X pins σ tg R) X.xe s1) X.xe s
theorem go_of {M : Model} {A : Around} {E : Value → Shared → Prop} {s : Shared} {tg : Expr} {it : Addr} {u : Value} {o : Obj} {n : String} {vs : Array Value} {Q : Unit → Shared → Prop} (ho : s.heap.get? it = some o) (hc : o.cls = .type n) (hd : o.data = .fields vs)
    (hn : ["enumerate", "zip", "dict_itemiterator", "dict_reverseitemiterator", "odict_iterator", "itertools.zip_longest", "itertools.pairwise"].contains n = false) (hQ : Q () s) : wpAny M A (letOwnedTupleGo tg (.ref it) u) Q E s := by
  unfold letOwnedTupleGo
  cases tg <;> first
    | exact wpAny_pure hQ
    | (cases u <;> first
        | exact wpAny_pure hQ
        | (refine wpAny_bind (wpAny_load ho ?_)
           rw [hc, hd]
           show wpAny M A (if (["enumerate", "zip", "dict_itemiterator", "dict_reverseitemiterator", "odict_iterator", "itertools.zip_longest", "itertools.pairwise"].contains n && vs[0]? == some (rawInt _)) = true then _ else _) Q E s
           rw [if_neg (by intro h; rw [hn, Bool.false_and] at h; cases h)]
           exact wpAny_pure hQ))
noncomputable def Itl (K : PySem.W.Frag) (a : Addr) : It :=
  ⟨fun i H => ∃ xs x, SqL K H a xs ∧ xs[i]? = some x, fun i H x H' => H' = H ∧ ∀ xs, SqL K H a xs → xs[i]? = some x, fun i H => ∃ xs, SqL K H a xs ∧ xs.length ≤ i⟩
noncomputable def Itt (K : PySem.W.Frag) (a : Addr) : It :=
  ⟨fun i H => ∃ xs x, SqT K H a xs ∧ xs[i]? = some x, fun i H x H' => H' = H ∧ ∀ xs, SqT K H a xs → xs[i]? = some x, fun i H => ∃ xs, SqT K H a xs ∧ xs.length ≤ i⟩
noncomputable def Itr (lo : Int) (n : Nat) : It := ⟨fun i _ => i < n, fun i H x H' => H' = H ∧ x = .int (lo + i), fun i _ => n ≤ i⟩
theorem turn_list {P : Program} {w : World} {K : PySem.W.Frag} {tg : Expr} (a it : Addr) : Turn P w K tg (Itl K a) [it] it (fun i h => h.IsListIter it a i) where
  mem := by simp
  obj := fun i h st b hb => by
    have e : b = it := by simpa using hb
    subst e
    obtain ⟨o, e, c, d⟩ := st
    exact ⟨o, e, fun v z => by rw [d] at z; cases z⟩
  keep := fun i h h' st k => st.at fun o e => k it (by simp) o e
  item := by
    intro X hP hw hK hc i pins s σ H E I hf st hg
    subst hP hw hK
    obtain ⟨xs, x, hq, hx⟩ := hg
    obtain ⟨its, rv, p, hz⟩ := I.list hq
    obtain ⟨u, hu, ru⟩ := rv.get hx
    obtain ⟨f0, f1, f2, f3, f4, f5⟩ := hf it (by simp)
    refine wpAny_pyNext_list_item st p.isList (x := u) (by simpa using hu) fun h' st' sb => ?_
    have I1 : Inv X pins σ H { s with heap := h' } := I.turned (t' := s.toks) (fun b o hb e => (sb.2 b hb).trans e) f0 f1 f3 f4 f5
    obtain ⟨o, e, c, d⟩ := id st'
    exact ⟨u, rfl, go_of (s := { s with heap := h' }) e c d (by decide) ⟨x, H, I1, ru, ⟨rfl, fun ys hy => by rw [I.list_inj hy hq]; exact hx⟩, st', fun b hb => (hf b hb).1⟩⟩
  done := by
    intro X hP hw hK hc i pins s σ H E I hf st hg
    subst hP hw hK
    obtain ⟨xs, hq, hx⟩ := hg
    obtain ⟨its, rv, p, hz⟩ := I.list hq
    obtain ⟨f0, f1, f2, f3, f4, f5⟩ := hf it (by simp)
    have hl := rv.length
    exact wpAny_pyNext_list_end (I.ok.hd hc) st p.isList (by simp; omega) fun h' eb => ⟨rfl, I.turned (t' := s.toks) (fun b o hb e => eb b o hb e) f0 f1 f3 f4 f5⟩
  self := fun _ _ _ _ _ st h => wpAny_pyIter_listiter st h
theorem turn_tuple {P : Program} {w : World} {K : PySem.W.Frag} {tg : Expr} (a it : Addr) : Turn P w K tg (Itt K a) [it] it (fun i h => h.IsTupleIter it a i) where
  mem := by simp
  obj := fun i h st b hb => by
    have e : b = it := by simpa using hb
    subst e
    obtain ⟨o, e, c, d⟩ := st
    exact ⟨o, e, fun v z => by rw [d] at z; cases z⟩
  keep := fun i h h' st k => st.at fun o e => k it (by simp) o e
  item := by
    intro X hP hw hK hc i pins s σ H E I hf st hg
    subst hP hw hK
    obtain ⟨xs, x, hq, hx⟩ := hg
    obtain ⟨its, rv, p, hz⟩ := I.tuple hq
    obtain ⟨u, hu, ru⟩ := rv.get hx
    obtain ⟨f0, f1, f2, f3, f4, f5⟩ := hf it (by simp)
    refine wpAny_pyNext_tuple_item st (show s.heap.IsTuple a its.toArray from p) (x := u) (by simpa using hu) fun h' st' sb => ?_
    have I1 : Inv X pins σ H { s with heap := h' } := I.turned (t' := s.toks) (fun b o hb e => (sb.2 b hb).trans e) f0 f1 f3 f4 f5
    obtain ⟨o, e, c, d⟩ := id st'
    exact ⟨u, rfl, go_of (s := { s with heap := h' }) e c d (by decide) ⟨x, H, I1, ru, ⟨rfl, fun ys hy => by rw [I.tuple_inj hy hq]; exact hx⟩, st', fun b hb => (hf b hb).1⟩⟩
  done := by
    intro X hP hw hK hc i pins s σ H E I hf st hg
    subst hP hw hK
    obtain ⟨xs, hq, hx⟩ := hg
    obtain ⟨its, rv, p, hz⟩ := I.tuple hq
    obtain ⟨f0, f1, f2, f3, f4, f5⟩ := hf it (by simp)
    have hl := rv.length
    exact wpAny_pyNext_tuple_end (I.ok.hd hc) st (show s.heap.IsTuple a its.toArray from p) (by simp; omega) fun h' eb => ⟨rfl, I.turned (t' := s.toks) (fun b o hb e => eb b o hb e) f0 f1 f3 f4 f5⟩
  self := fun _ _ _ _ _ st h => wpAny_pyIter_tupleiter st h
theorem turn_range {P : Program} {w : World} {K : PySem.W.Frag} {tg : Expr} (it : Addr) (lo : Int) (n : Nat) : Turn P w K tg (Itr lo n) [it] it (fun i h => IsRangeIter h it (lo + (i : Nat) * 1) ((n : Int) - (i : Nat)) 1) where
  mem := by simp
  obj := fun i h st b hb => by
    have e : b = it := by simpa using hb
    subst e
    exact ⟨_, st, fun v z => by
      have z' : Data.fields _ = Data.cell v := z
      cases z'⟩
  keep := fun i h h' st k => k it (by simp) _ st
  item := by
    intro X hP hw hK hc i pins s σ H E I hf st hg
    subst hP hw hK
    obtain ⟨f0, f1, f2, f3, f4, f5⟩ := hf it (by simp)
    have W := Walks.range (prog := X.prog) (w := X.w) (I.ok.hd hc) it lo 1 n
    refine W.item i s _ _ hg st fun v h' tk hv st' kk => ?_
    obtain ⟨t, rfl⟩ := hv
    have I1 : Inv X pins σ H { s with heap := h', toks := tk } := I.turned (fun b o hb e => kk b o (by simpa using hb) e) f0 f1 f3 f4 f5
    refine ⟨_, rfl, go_of (s := { s with heap := h', toks := tk }) (n := "range_iterator") st' rfl rfl (by decide) ⟨.int (lo + i), H, I1, ⟨t, ?_⟩, ⟨rfl, rfl⟩, st', fun b hb => (hf b hb).1⟩⟩
    rw [Int.mul_one]
  done := by
    intro X hP hw hK hc i pins s σ H E I hf st hg
    subst hP hw hK
    obtain ⟨f0, f1, f2, f3, f4, f5⟩ := hf it (by simp)
    exact wpAny_pyNext_range_end (I.ok.hd hc) st (by have : n ≤ i := hg; omega) fun h' eb => ⟨rfl, I.turned (t' := s.toks) (fun b o hb e => eb b o hb e) f0 f1 f3 f4 f5⟩
  self := fun _ _ _ _ _ st h => wpAny_pyIter_rangeiter st h
end L2
namespace L2
open PySem PySem.Spec PyProof.Rows
section
variable {X : Cx} {tg : Expr}
noncomputable def iList (K : PySem.W.Frag) (tl : TE) : TI := fun σ H R => tl σ H fun x H1 => ∃ a, x = .ref a ∧ (∃ xs, SqL K H1 a xs) ∧ R (Itl K a) H1
noncomputable def iTup (K : PySem.W.Frag) (tl : TE) : TI := fun σ H R => tl σ H fun x H1 => ∃ a, x = .ref a ∧ (∃ xs, SqT K H1 a xs) ∧ R (Itt K a) H1
theorem pi_list {l : Expr} {tl : TE} (hl : PE X l tl) : PI X tg l (iList X.K tl) := by
  intro pins s σ H R I h
  refine thn (hl pins s σ H _ I h) fun v s1 ⟨x, H1, I1, r1, q1⟩ => ?_
  obtain ⟨a, e, ⟨xs, hq⟩, q⟩ := q1
  subst e
  cases r1
  obtain ⟨its, rv, p, hz⟩ := I1.list hq
  refine wpAny_pyIter_list p.isList ?_
  refine ⟨s1.heap.objs.size, [s1.heap.objs.size], _, _, H1, rfl, I1.kept (t' := s1.toks) fun b o e => Heap.get?_push_of_some _ e, turn_list a _, ⟨_, Heap.get?_push_size _ rfl, rfl, rfl⟩, fun b hb => ?_, q⟩
  have e : b = s1.heap.objs.size := by simpa using hb
  subst e
  exact I1.fpOk (Nat.le_refl _) (I1.hok.fresh (Nat.le_refl _))
theorem pi_tup {l : Expr} {tl : TE} (hl : PE X l tl) : PI X tg l (iTup X.K tl) := by
  intro pins s σ H R I h
  refine thn (hl pins s σ H _ I h) fun v s1 ⟨x, H1, I1, r1, q1⟩ => ?_
  obtain ⟨a, e, ⟨xs, hq⟩, q⟩ := q1
  subst e
  cases r1
  obtain ⟨its, rv, p, hz⟩ := I1.tuple hq
  refine wpAny_pyIter_tuple (show s1.heap.IsTuple a its.toArray from p) ?_
  refine ⟨s1.heap.objs.size, [s1.heap.objs.size], _, _, H1, rfl, I1.kept (t' := s1.toks) fun b o e => Heap.get?_push_of_some _ e, turn_tuple a _, ⟨_, Heap.get?_push_size _ rfl, rfl, rfl⟩, fun b hb => ?_, q⟩
  have e : b = s1.heap.objs.size := by simpa using hb
  subst e
  exact I1.fpOk (Nat.le_refl _) (I1.hok.fresh (Nat.le_refl _))
theorem range_it {pins : List (Addr × Obj)} {σ : St} {H : Hp} {s : Shared} {R : It → Hp → Prop} {E : Value → Shared → Prop} {lo hi : Int} {t u v : Tok} {tk : Nat} (I : Inv X pins σ H s) (h1 : -(2 ^ 62) ≤ lo) (h2 : lo < 2 ^ 62) (h3 : -(2 ^ 62) ≤ hi) (h4 : hi < 2 ^ 62)
    (q : R (Itr lo (hi - lo).toNat) H) : wpAny (model X.prog X.w) X.A (pyIter (.ref s.heap.objs.size)) (PIE X pins σ tg R) E { s with heap := s.heap.push { cls := .type "range", data := .fields #[.int lo t, .int hi u, .int 1 v] }, toks := tk } := by
  refine wpAny_pyIter_range (IsRange.new ..) (small_one h1 h2 h3 h4) ?_
  have I1 : Inv X pins σ H { s with heap := s.heap.push { cls := .type "range", data := .fields #[.int lo t, .int hi u, .int 1 v] }, toks := tk } := I.kept fun b o e => Heap.get?_push_of_some _ e
  refine ⟨(s.heap.push { cls := .type "range", data := .fields #[.int lo t, .int hi u, .int 1 v] }).objs.size, [(s.heap.push { cls := .type "range", data := .fields #[.int lo t, .int hi u, .int 1 v] }).objs.size], _, _, H, rfl,
    I1.kept (t' := tk) fun b o e => Heap.get?_push_of_some _ e, turn_range _ lo (hi - lo).toNat, ?_, fun b hb => ?_, q⟩
  · have e1 : lo + ((0 : Nat) : Int) * 1 = lo := by simp
    have e2 : (((hi - lo).toNat : Nat) : Int) - ((0 : Nat) : Int) = Builtin.Range.rangeSize lo hi 1 := by rw [rangeSize_one]; split <;> omega
    show IsRangeIter _ _ (lo + ((0 : Nat) : Int) * 1) ((((hi - lo).toNat : Nat) : Int) - ((0 : Nat) : Int)) 1
    rw [e1, e2]
    exact Heap.get?_push_size _ rfl
  · have e : b = (s.heap.push { cls := .type "range", data := .fields #[.int lo t, .int hi u, .int 1 v] }).objs.size := by simpa using hb
    subst e
    exact I1.fpOk (Nat.le_refl _) (I1.hok.fresh (Nat.le_refl _))
noncomputable def iRng1 (ta : TA) : TI := fun σ H R => ta σ H fun vs H1 => ∃ j : Int, vs = [.int j] ∧ -(2 ^ 62) ≤ j ∧ j < 2 ^ 62 ∧ R (Itr 0 j.toNat) H1
noncomputable def iRng2 (ta : TA) : TI := fun σ H R => ta σ H fun vs H1 => ∃ i j : Int, vs = [.int i, .int j] ∧ (-(2 ^ 62) ≤ i ∧ i < 2 ^ 62 ∧ -(2 ^ 62) ≤ j ∧ j < 2 ^ 62) ∧ R (Itr i (j - i).toNat) H1
theorem pi_range1 {a : Expr} {ta : TA} {p pos : Pos} (hg : Gl X "range") (hm : X.mg "range" = none) (ha : PA X [a] ta) (hs : starEach [a] X.env = [(false, eval a X.env)] := by rfl) : PI X tg (.Call (.Name "range" p) [a] [] pos) (iRng1 ta) := by
  intro pins s σ H R I h
  refine Call_ (ld_blt I hg hm boot_range (PyProof.Rows.callWith_type1 (thn (ha pos pins s σ H _ I h) fun us s1 ⟨vs, H1, I1, r1, q1⟩ => ?_) hs rfl))
  obtain ⟨j, e, q1, q2, q⟩ := q1
  subst e
  cases r1 with
  | cons r rr =>
    cases rr
    obtain ⟨t, rfl⟩ := r
    exact call_range_1 (range_it I1 (by omega) (by omega) q1 q2 (by simpa using q))
theorem pi_range2 {a b : Expr} {ta : TA} {p pos : Pos} (hg : Gl X "range") (hm : X.mg "range" = none) (ha : PA X [a, b] ta) (hs : starEach [a, b] X.env = [(false, eval a X.env), (false, eval b X.env)] := by rfl) (hs2 : starEach [b] X.env = [(false, eval b X.env)] := by rfl) :
    PI X tg (.Call (.Name "range" p) [a, b] [] pos) (iRng2 ta) := by
  intro pins s σ H R I h
  refine Call_ (ld_blt I hg hm boot_range (PyProof.Rows.callWith_type1 (thn (ha pos pins s σ H _ I h) fun us s1 ⟨vs, H1, I1, r1, q1⟩ => ?_) (by rw [hs, hs2]) (by rw [hs2]; rfl)))
  obtain ⟨i, j, e, ⟨q1, q2, q3, q4⟩, q⟩ := q1
  subst e
  cases r1 with
  | cons r rr =>
    cases rr with
    | cons r' rr =>
      cases rr
      obtain ⟨t, rfl⟩ := r
      obtain ⟨t', rfl⟩ := r'
      exact call_range_2 (range_it I1 q1 q2 q3 q4 q)
noncomputable def tFor (wi : TI) (g : TG) (tb : TS) : TS := fun D σ H => wi σ H fun J H1 => ∃ W : Nat → Nat → St → Hp → Prop, (∃ m, W 0 m σ H1) ∧ ∀ i m σ H, W i m σ H →
  (J.stop i H ∧ D.nx σ H) ∨ (J.go i H ∧ ∃ N : St → Hp → Prop, (∀ σ' H', N σ' H' → ∃ m', m' < m ∧ W (i + 1) m' σ' H') ∧ ∀ x H', J.yld i H x H' → g x σ H' fun σ2 H2 => tb { D with nx := N, ct := N, bk := D.nx } σ2 H2)
noncomputable def pinsAt (fp : List Addr) (h : Heap) : List (Addr × Obj) := fp.filterMap fun b => (h.get? b).map fun o => (b, o)
theorem mem_pinsAt {fp : List Addr} {h : Heap} {b : Addr} {o : Obj} (hb : b ∈ fp) (e : h.get? b = some o) : (b, o) ∈ pinsAt fp h := List.mem_filterMap.mpr ⟨b, hb, by rw [e]; rfl⟩
theorem of_pinsAt {fp : List Addr} {h : Heap} {p : Addr × Obj} (hp : p ∈ pinsAt fp h) : p.1 ∈ fp ∧ h.get? p.1 = some p.2 := by
  obtain ⟨b, hb, e⟩ := List.mem_filterMap.mp hp
  cases q : h.get? b with
  | none => rw [q] at e; cases e
  | some o =>
    rw [q] at e
    have e' : (b, o) = p := Option.some.inj e
    subst e'
    exact ⟨hb, q⟩
theorem Inv.pinned {pins : List (Addr × Obj)} {σ : St} {H : Hp} {s : Shared} {fp : List Addr} (I : Inv X pins σ H s) (hf : ∀ b ∈ fp, FpOk X pins H b) (ho : ∀ b ∈ fp, ∃ o, s.heap.get? b = some o ∧ ∀ v, o.data ≠ .cell v) : Inv X (pins ++ pinsAt fp s.heap) σ H s :=
  I.pins_of fun p hp => (List.mem_append.mp hp).elim (fun z => I.pin p (List.mem_append_right _ z)) fun z => by
    obtain ⟨hb, e⟩ := of_pinsAt z
    obtain ⟨f0, f1, f2, _⟩ := hf p.1 hb
    obtain ⟨o, e', d⟩ := ho p.1 hb
    rw [e] at e'; cases e'
    exact ⟨e, f0, f1, f2, d⟩
theorem Inv.unpinned {pins pl : List (Addr × Obj)} {σ : St} {H : Hp} {s : Shared} (I : Inv X (pins ++ pl) σ H s) : Inv X pins σ H s := I.pins_of fun p hp => I.pin p (List.mem_append_right _ (List.mem_append_left _ hp))
theorem ps_for {iter : Expr} {body : List Stmt} {wi : TI} {g : TG} {tb : TS} {pos : Pos} (hp : PassesOwn (model X.prog X.w) X.A X.env X.xe) (hc : X.calm = true) (hi : PI X tg iter wi) (hg : PG X tg g) (hb : PSs X body tb)
    (hs : ∀ x, foldedSetIterable iter X.env x = pure x := by intro _; rfl) : PS X (.For tg iter body [] pos) (tFor wi g tb) := by
  intro pins s σ H D I h
  refine wpAny_For (thn (hi pins s σ H _ I h) fun v s1 h1 => thn h1 fun itv s2 h2 => ?_) hs
  obtain ⟨it, fp, tn, J, H2, e, I2, T, st2, f2, W, ⟨m0, w0⟩, turn⟩ := h2
  subst e
  have stat : ∀ {H' : Hp}, (∀ b ∈ fp, H' b = none) → ∀ b ∈ fp, FpOk X pins H' b := fun hn b hb => ⟨hn b hb, (f2 b hb).2⟩
  refine codeAny_forLoop_any (fun n s' => ∃ i σ' H', Inv X pins σ' H' s' ∧ tn i s'.heap ∧ (∀ b ∈ fp, H' b = none) ∧ W i n σ' H') ?_ m0 ⟨0, σ, H2, I2, st2, fun b hb => (f2 b hb).1, w0⟩
  rintro n s3 ⟨i, σ3, H3, I3, st3, fr3, w3⟩
  rcases turn i n σ3 H3 w3 with ⟨stop, qn⟩ | ⟨go, N, hN, step⟩
  · refine wpAny_passesOwn hp (thn (T.done X rfl rfl rfl hc i pins s3 σ3 H3 X.xe I3 (stat fr3) st3 stop) fun r s4 ⟨hr, I4⟩ => ?_)
    subst hr
    exact wpAny_execs_nil ⟨σ3, H3, I4, qn⟩
  · refine wpAny_passesOwn hp (thn (T.item X rfl rfl rfl hc i pins s3 σ3 H3 X.xe I3 (stat fr3) st3 go) fun r s4 ⟨u, hr, h4⟩ => ?_)
    subst hr
    refine wpAny_passesOwn hp (thn h4 fun _ s5 ⟨x, H5, I5, r5, y5, st5, fr5⟩ => ?_)
    have I5' := I5.pinned (stat fr5) (T.obj _ _ st5)
    refine wpAny_passesOwn hp (thn (hg _ s5 σ3 H5 x u _ I5' r5 (step x H5 y5)) fun _ s6 ⟨σ6, H6, I6, q6⟩ => ?_)
    refine wpAny_passesOwn hp (thn (hb _ s6 σ6 H6 _ I6 q6) fun f s7 q7 => ?_)
    have again : ∀ {σ7 : St} {H7 : Hp}, Inv X (pins ++ pinsAt fp s5.heap) σ7 H7 s7 → N σ7 H7 → ∃ m, m < n ∧ ∃ i σ' H', Inv X pins σ' H' s7 ∧ tn i s7.heap ∧ (∀ b ∈ fp, H' b = none) ∧ W i m σ' H' := fun {σ7 H7} I7 n7 => by
      obtain ⟨m', hm, w7⟩ := hN σ7 H7 n7
      refine ⟨m', hm, i + 1, σ7, H7, I7.unpinned, T.keep _ _ _ st5 fun b hb o e => (I7.pin (b, o) (List.mem_append_right _ (List.mem_append_right _ (mem_pinsAt hb e)))).1, fun b hb => ?_, w7⟩
      obtain ⟨o, e, d⟩ := T.obj _ _ st5 b hb
      exact (I7.pin (b, o) (List.mem_append_right _ (List.mem_append_right _ (mem_pinsAt hb e)))).2.1
    cases f with
    | next => obtain ⟨σ7, H7, I7, n7⟩ := q7; exact again I7 n7
    | cont => obtain ⟨σ7, H7, I7, n7⟩ := q7; exact again I7 n7
    | brk => obtain ⟨σ7, H7, I7, q7⟩ := q7; exact ⟨σ7, H7, I7.unpinned, q7⟩
    | ret v => obtain ⟨x7, σ7, H7, I7, r7, q7⟩ := q7; exact ⟨x7, σ7, H7, I7.unpinned, r7, q7⟩
end
theorem for_list {K : PySem.W.Frag} {a : Addr} {xs : List V} {g : TG} {tb : TS} {D : Ends} {σ : St} {H : Hp} (Pv : Nat → St → Hp → Prop) (h0 : Pv 0 σ H) (hl : ∀ i σ H, i ≤ xs.length → Pv i σ H → SqL K H a xs)
    (hs : ∀ i x σ H, xs[i]? = some x → Pv i σ H → g x σ H fun σ2 H2 => tb { D with nx := Pv (i + 1), ct := Pv (i + 1), bk := D.nx } σ2 H2) (hd : ∀ σ H, Pv xs.length σ H → D.nx σ H) :
    ∃ W : Nat → Nat → St → Hp → Prop, (∃ m, W 0 m σ H) ∧ ∀ i m σ H, W i m σ H →
      ((Itl K a).stop i H ∧ D.nx σ H) ∨ ((Itl K a).go i H ∧ ∃ N : St → Hp → Prop, (∀ σ' H', N σ' H' → ∃ m', m' < m ∧ W (i + 1) m' σ' H') ∧ ∀ x H', (Itl K a).yld i H x H' → g x σ H' fun σ2 H2 => tb { D with nx := N, ct := N, bk := D.nx } σ2 H2) := by
  refine ⟨fun i m σ H => m = xs.length - i ∧ i ≤ xs.length ∧ Pv i σ H, ⟨xs.length, by simp, Nat.zero_le _, h0⟩, ?_⟩
  rintro i m σ H ⟨rfl, hi, p⟩
  have q := hl i σ H hi p
  by_cases hlt : i < xs.length
  · refine .inr ⟨⟨xs, xs[i], q, by simp [hlt]⟩, Pv (i + 1), fun σ' H' p' => ⟨xs.length - (i + 1), by omega, rfl, hlt, p'⟩, fun x H' y => ?_⟩
    obtain ⟨e, y⟩ := y
    subst e
    exact hs i x σ _ (y xs q) p
  · have e : i = xs.length := by omega
    subst e
    exact .inl ⟨⟨xs, q, Nat.le_refl _⟩, hd σ H p⟩
theorem for_tup {K : PySem.W.Frag} {a : Addr} {xs : List V} {g : TG} {tb : TS} {D : Ends} {σ : St} {H : Hp} (Pv : Nat → St → Hp → Prop) (h0 : Pv 0 σ H) (hl : ∀ i σ H, i ≤ xs.length → Pv i σ H → SqT K H a xs)
    (hs : ∀ i x σ H, xs[i]? = some x → Pv i σ H → g x σ H fun σ2 H2 => tb { D with nx := Pv (i + 1), ct := Pv (i + 1), bk := D.nx } σ2 H2) (hd : ∀ σ H, Pv xs.length σ H → D.nx σ H) :
    ∃ W : Nat → Nat → St → Hp → Prop, (∃ m, W 0 m σ H) ∧ ∀ i m σ H, W i m σ H →
      ((Itt K a).stop i H ∧ D.nx σ H) ∨ ((Itt K a).go i H ∧ ∃ N : St → Hp → Prop, (∀ σ' H', N σ' H' → ∃ m', m' < m ∧ W (i + 1) m' σ' H') ∧ ∀ x H', (Itt K a).yld i H x H' → g x σ H' fun σ2 H2 => tb { D with nx := N, ct := N, bk := D.nx } σ2 H2) := by
  refine ⟨fun i m σ H => m = xs.length - i ∧ i ≤ xs.length ∧ Pv i σ H, ⟨xs.length, by simp, Nat.zero_le _, h0⟩, ?_⟩
  rintro i m σ H ⟨rfl, hi, p⟩
  have q := hl i σ H hi p
  by_cases hlt : i < xs.length
  · refine .inr ⟨⟨xs, xs[i], q, by simp [hlt]⟩, Pv (i + 1), fun σ' H' p' => ⟨xs.length - (i + 1), by omega, rfl, hlt, p'⟩, fun x H' y => ?_⟩
    obtain ⟨e, y⟩ := y
    subst e
    exact hs i x σ _ (y xs q) p
  · have e : i = xs.length := by omega
    subst e
    exact .inl ⟨⟨xs, q, Nat.le_refl _⟩, hd σ H p⟩
theorem for_range {lo : Int} {n : Nat} {g : TG} {tb : TS} {D : Ends} {σ : St} {H : Hp} (Pv : Nat → St → Hp → Prop) (h0 : Pv 0 σ H)
    (hs : ∀ i σ H, i < n → Pv i σ H → g (.int (lo + i)) σ H fun σ2 H2 => tb { D with nx := Pv (i + 1), ct := Pv (i + 1), bk := D.nx } σ2 H2) (hd : ∀ σ H, Pv n σ H → D.nx σ H) :
    ∃ W : Nat → Nat → St → Hp → Prop, (∃ m, W 0 m σ H) ∧ ∀ i m σ H, W i m σ H →
      ((Itr lo n).stop i H ∧ D.nx σ H) ∨ ((Itr lo n).go i H ∧ ∃ N : St → Hp → Prop, (∀ σ' H', N σ' H' → ∃ m', m' < m ∧ W (i + 1) m' σ' H') ∧ ∀ x H', (Itr lo n).yld i H x H' → g x σ H' fun σ2 H2 => tb { D with nx := N, ct := N, bk := D.nx } σ2 H2) := by
  refine ⟨fun i m σ H => m = n - i ∧ i ≤ n ∧ Pv i σ H, ⟨n, by simp, Nat.zero_le _, h0⟩, ?_⟩
  rintro i m σ H ⟨rfl, hi, p⟩
  by_cases hlt : i < n
  · refine .inr ⟨hlt, Pv (i + 1), fun σ' H' p' => ⟨n - (i + 1), by omega, rfl, hlt, p'⟩, fun x H' y => ?_⟩
    obtain ⟨e, y⟩ := y
    subst e y
    exact hs i σ _ hlt p
  · have e : i = n := by omega
    subst e
    exact .inl ⟨Nat.le_refl _, hd σ H p⟩
theorem while_by {c : TT} {tb : TS} {D : Ends} {σ : St} {H : Hp} (Pv : St → Hp → Prop) (μ : St → Hp → Nat) (h0 : Pv σ H)
    (hs : ∀ σ H, Pv σ H → c σ H fun b H1 => if b = true then tb { D with nx := fun σ' H' => Pv σ' H' ∧ μ σ' H' < μ σ H, ct := fun σ' H' => Pv σ' H' ∧ μ σ' H' < μ σ H, bk := D.nx } σ H1 else D.nx σ H1)
    (mono : ∀ σ H Q Q', (∀ b H1, Q b H1 → Q' b H1) → c σ H Q → c σ H Q') : tWhile c tb D σ H := by
  refine ⟨fun m σ H => m = μ σ H ∧ Pv σ H, ⟨_, rfl, h0⟩, ?_⟩
  rintro m σ H ⟨rfl, p⟩
  refine mono σ H _ _ (fun b H1 q => ?_) (hs σ H p)
  cases b with
  | true => exact ⟨_, fun σ' H' ⟨p', l⟩ => ⟨_, l, rfl, p'⟩, q⟩
  | false => exact q
end L2
namespace L2
open PySem PySem.Spec PyProof.Rows
noncomputable abbrev R2 := V → V → Hp → VK → Prop
noncomputable def OpR (X : Cx) (f : Value → Value → Sem Value) (r : R2) : Prop :=
  ∀ (pins : List (Addr × Obj)) (s : Shared) (σ : St) (H : Hp) (x y : V) (v u : Value) (Q : VK), Inv X pins σ H s → RelV x v → RelV y u → r x y H Q →
    wpAny (model X.prog X.w) X.A (f v u) (EP X pins σ Q) X.xe s
noncomputable def UnR (X : Cx) (f : Value → Sem Value) (r : V → Hp → VK → Prop) : Prop :=
  ∀ (pins : List (Addr × Obj)) (s : Shared) (σ : St) (H : Hp) (x : V) (v : Value) (Q : VK), Inv X pins σ H s → RelV x v → r x H Q →
    wpAny (model X.prog X.w) X.A (f v) (EP X pins σ Q) X.xe s
noncomputable def CallR (X : Cx) (f : Value) (r : List V → Hp → VK → Prop) : Prop :=
  ∀ (pins : List (Addr × Obj)) (s : Shared) (σ : St) (H : Hp) (xs : List V) (us : List Value) (Q : VK), Inv X pins σ H s → Vals xs us → r xs H Q →
    wpAny (model X.prog X.w) X.A (call f us) (EP X pins σ Q) X.xe s
noncomputable def tOp (r : R2) (ta tb : TE) : TE := fun σ H Q => ta σ H fun x H1 => tb σ H1 fun y H2 => r x y H2 Q
noncomputable def tUn (r : V → Hp → VK → Prop) (ta : TE) : TE := fun σ H Q => ta σ H fun x H1 => r x H1 Q
noncomputable def rI (C : Int → Int → Prop) (g : Int → Int → V) : R2 := fun x y H Q => ∃ i j, x = .int i ∧ y = .int j ∧ C i j ∧ Q (g i j) H
noncomputable def rI0 (g : Int → Int → V) : R2 := fun x y H Q => ∃ i j, x = .int i ∧ y = .int j ∧ Q (g i j) H
noncomputable def rU (g : Int → V) : V → Hp → VK → Prop := fun x H Q => ∃ i, x = .int i ∧ Q (g i) H
section
variable {X : Cx} {a b c : Expr} {ta tb tc : TE} {pos : Pos}
theorem binT (ha : PE X a ta) (hb : PE X b tb) {pins : List (Addr × Obj)} {s : Shared} {σ : St} {H : Hp} {R : V → V → Hp → Prop} (I : Inv X pins σ H s)
    (h : ta σ H fun x H1 => tb σ H1 fun y H2 => R x y H2) {Q : Value → Shared → Prop} {f : Value → Value → Sem Value}
    (hf : ∀ v u s2 x y H2, Inv X pins σ H2 s2 → RelV x v → RelV y u → R x y H2 → wpAny (model X.prog X.w) X.A (f v u) Q X.xe s2) :
    wpAny (model X.prog X.w) X.A (eval a X.env) (fun v s₁ => wpAny (model X.prog X.w) X.A (eval b X.env) (fun u s₂ => wpAny (model X.prog X.w) X.A (f v u) Q X.xe s₂) X.xe s₁) X.xe s := by
  refine thn (ha pins s σ H _ I h) fun v s1 ⟨x, H1, I1, r1, q1⟩ => ?_
  refine thn (hb pins s1 σ H1 _ I1 q1) fun u s2 ⟨y, H2, I2, r2, q2⟩ => ?_
  exact hf v u s2 x y H2 I2 r1 r2 q2
theorem pe_op {op : Operator} {r : R2} (ho : OpR X (binaryOp op) r) (ha : PE X a ta) (hb : PE X b tb) : PE X (.BinOp a op b pos) (tOp r ta tb) := by
  intro pins s σ H Q I h
  exact wpAny_BinOp (binT ha hb I h fun v u s2 x y H2 I2 rx ry q => ho pins s2 σ H2 x y v u Q I2 rx ry q)
theorem pe_un {op : UnaryOp} {r : V → Hp → VK → Prop} (ho : UnR X (unaryOp op) r) (ha : PE X a ta) : PE X (.UnaryOp op a pos) (tUn r ta) := by
  intro pins s σ H Q I h
  exact UnaryOp_ (thn (ha pins s σ H _ I h) fun v s1 ⟨x, H1, I1, r1, q1⟩ => ho pins s1 σ H1 x v Q I1 r1 q1)
theorem opI {f : Value → Value → Sem Value} {C : Int → Int → Prop} {g : Int → Int → Int}
    (rule : ∀ (i j : Int) (t u : Tok) (s : Shared) (Q : Value → Shared → Prop) (E : Value → Shared → Prop), C i j → Q (.int (g i j) s.toks) { s with toks := s.toks + 1 } → wpAny (model X.prog X.w) X.A (f (.int i t) (.int j u)) Q E s) :
    OpR X f (rI C fun i j => .int (g i j)) := by
  intro pins s σ H x y v u Q I rx ry h
  obtain ⟨i, j, rfl, rfl, hc, q⟩ := h
  obtain ⟨t, rfl⟩ := rx
  obtain ⟨t', rfl⟩ := ry
  exact rule i j t t' s _ _ hc ⟨.int (g i j), H, I.tok _, ⟨_, rfl⟩, q⟩
theorem opI0 {f : Value → Value → Sem Value} {g : Int → Int → Int}
    (rule : ∀ (i j : Int) (t u : Tok) (s : Shared) (Q : Value → Shared → Prop) (E : Value → Shared → Prop), Q (.int (g i j) s.toks) { s with toks := s.toks + 1 } → wpAny (model X.prog X.w) X.A (f (.int i t) (.int j u)) Q E s) :
    OpR X f (rI0 fun i j => .int (g i j)) := by
  intro pins s σ H x y v u Q I rx ry h
  obtain ⟨i, j, rfl, rfl, q⟩ := h
  obtain ⟨t, rfl⟩ := rx
  obtain ⟨t', rfl⟩ := ry
  exact rule i j t t' s _ _ ⟨.int (g i j), H, I.tok _, ⟨_, rfl⟩, q⟩
theorem opB0 {f : Value → Value → Sem Value} {g : Int → Int → Bool}
    (rule : ∀ (i j : Int) (t u : Tok) (s : Shared) (Q : Value → Shared → Prop) (E : Value → Shared → Prop), Q (.bool (g i j)) s → wpAny (model X.prog X.w) X.A (f (.int i t) (.int j u)) Q E s) :
    OpR X f (rI0 fun i j => .bl (g i j)) := by
  intro pins s σ H x y v u Q I rx ry h
  obtain ⟨i, j, rfl, rfl, q⟩ := h
  obtain ⟨t, rfl⟩ := rx
  obtain ⟨t', rfl⟩ := ry
  exact rule i j t t' s _ _ ⟨.bl (g i j), H, I, rfl, q⟩
noncomputable def CDiv (i j : Int) : Prop := 0 < j ∧ j < 1073741824
noncomputable def CPow (i j : Int) : Prop := 0 ≤ j ∧ j ≤ 1000000 ∧ i.natAbs < 2 ^ 64
noncomputable def CMul (i j : Int) : Prop := (-(2 ^ 64) < i ∧ i < 2 ^ 64) ∨ (-(2 ^ 64) < j ∧ j < 2 ^ 64)
theorem CMul.ok {i j : Int} (h : CMul i j) : IntMulOk i j := by
  rcases h with ⟨h1, h2⟩ | ⟨h1, h2⟩
  · exact .of_left (intBits_le_64 h1 h2)
  · exact .of_right (intBits_le_64 h1 h2)
theorem op_add : OpR X (binaryOp .Add) (rI0 fun i j => .int (i + j)) := opI0 fun _ _ _ _ _ _ _ q => add_int q
theorem op_sub : OpR X (binaryOp .Sub) (rI0 fun i j => .int (i - j)) := opI0 fun _ _ _ _ _ _ _ q => sub_int q
theorem op_mul : OpR X (binaryOp .Mult) (rI CMul fun i j => .int (i * j)) := opI fun _ _ _ _ _ _ _ hc q => mul_int q hc.ok
theorem op_fdiv : OpR X (binaryOp .FloorDiv) (rI CDiv fun i j => .int (i / j)) := opI fun i j _ _ _ _ _ hc q => by
  have h1 : (0 : Int) < j := hc.1
  have h2 : j < 1073741824 := hc.2
  exact floordiv_int (by omega) (by rw [Int.fdiv_eq_ediv_of_nonneg i (by omega)]; exact q) (.inl (PyProof.noPylong_small (by omega)))
theorem op_mod : OpR X (binaryOp .Mod) (rI (fun _ j => 0 < j) fun i j => .int (i % j)) := opI fun i j _ _ _ _ _ hc q => by
  have h1 : (0 : Int) < j := hc
  exact mod_int' (by omega) (by rw [Int.fmod_eq_emod_of_nonneg i (by omega)]; exact q)
theorem op_pow : OpR X (binaryOp .Pow) (rI CPow fun i j => .int (i ^ j.toNat)) := opI fun _ _ _ _ _ _ _ hc q => pow_int_small hc.1 hc.2.1 hc.2.2 q
theorem unI {f : Value → Sem Value} {g : Int → Int}
    (rule : ∀ (i : Int) (t : Tok) (s : Shared) (Q : Value → Shared → Prop) (E : Value → Shared → Prop), Q (.int (g i) s.toks) { s with toks := s.toks + 1 } → wpAny (model X.prog X.w) X.A (f (.int i t)) Q E s) :
    UnR X f (rU fun i => .int (g i)) := by
  intro pins s σ H x v Q I rx h
  obtain ⟨i, rfl, q⟩ := h
  obtain ⟨t, rfl⟩ := rx
  exact rule i t s _ _ ⟨.int (g i), H, I.tok _, ⟨_, rfl⟩, q⟩
theorem un_neg : UnR X (unaryOp .USub) (rU fun i => .int (-i)) := unI fun _ _ _ _ _ q => neg_int q
end
noncomputable def scal : V → V → Bool
  | .non, .non => true | .non, .int _ => true | .int _, .non => true | .non, .bl _ => true | .bl _, .non => true | .non, .str _ => true | .str _, .non => true
  | .int _, .int _ => true | .bl _, .bl _ => true | .str _, .str _ => true | .byt _, .byt _ => true
  | .int _, .str _ => true | .str _, .int _ => true | .bl _, .str _ => true | .str _, .bl _ => true
  | _, _ => false
noncomputable def rEq : R2 := fun x y H Q => scal x y = true ∧ Q (.bl (decide (x = y))) H
noncomputable def rNe : R2 := fun x y H Q => scal x y = true ∧ Q (.bl (!decide (x = y))) H
theorem dec_int {i j : Int} : decide (V.int i = V.int j) = (i == j) := by
  rw [Bool.eq_iff_iff]
  simp
theorem dec_bl {i j : Bool} : decide (V.bl i = V.bl j) = (i == j) := by
  rw [Bool.eq_iff_iff]
  simp
theorem dec_str {i j : Str} : decide (V.str i = V.str j) = (i == j) := by
  rw [Bool.eq_iff_iff]
  simp
theorem dec_byt {i j : Array UInt8} : decide (V.byt i = V.byt j) = (i.toList == j.toList) := by
  rw [Bool.eq_iff_iff]
  cases i
  cases j
  simp
section
variable {X : Cx} {a b c : Expr} {ta tb tc : TE} {pos : Pos}
theorem fin_bl {pins : List (Addr × Obj)} {σ : St} {H : Hp} {s : Shared} {Q : VK} {k k' : Bool} (I : Inv X pins σ H s) (q : Q (.bl k) H) (e : k = k') : EP X pins σ Q (.bool k') s := by
  subst e
  exact ⟨.bl k, H, I, rfl, q⟩
theorem op_eq : OpR X (compareOp .Eq) rEq := by
  intro pins s σ H x y v u Q I rx ry h
  obtain ⟨hs, q⟩ := h
  cases x with
  | non =>
    cases rx
    cases y with
    | non => cases ry; exact PySem.EqNone.eq_none_none (fin_bl I q (by simp))
    | bl j => cases ry; exact PySem.EqNone.eq_none_bool (fin_bl I q (by simp))
    | int j => obtain ⟨t', rfl⟩ := ry; exact PySem.EqNone.eq_none_int (fin_bl I q (by simp))
    | str j => obtain ⟨t', rfl⟩ := ry; exact PySem.EqNone.eq_none_str (fin_bl I q (by simp))
    | _ => exact absurd (show false = true from hs) Bool.false_ne_true
  | bl i =>
    cases rx
    cases y with
    | non => cases ry; exact PySem.EqNone.eq_bool_none (fin_bl I q (by simp))
    | bl j => cases ry; exact eq_bool (fin_bl I q dec_bl)
    | str j => obtain ⟨t', rfl⟩ := ry; exact PySem.EqMixed.eq_bool_str (fin_bl I q (by simp))
    | _ => exact absurd (show false = true from hs) Bool.false_ne_true
  | int i =>
    obtain ⟨t, rfl⟩ := rx
    cases y with
    | non => cases ry; exact PySem.EqNone.eq_int_none (fin_bl I q (by simp))
    | int j => obtain ⟨t', rfl⟩ := ry; exact eq_int (fin_bl I q dec_int)
    | str j => obtain ⟨t', rfl⟩ := ry; exact PySem.EqMixed.eq_int_str (fin_bl I q (by simp))
    | _ => exact absurd (show false = true from hs) Bool.false_ne_true
  | str i =>
    obtain ⟨t, rfl⟩ := rx
    cases y with
    | non => cases ry; exact PySem.EqNone.eq_str_none (fin_bl I q (by simp))
    | bl j => cases ry; exact PySem.EqMixed.eq_str_bool (fin_bl I q (by simp))
    | int j => obtain ⟨t', rfl⟩ := ry; exact PySem.EqMixed.eq_str_int (fin_bl I q (by simp))
    | str j => obtain ⟨t', rfl⟩ := ry; exact eq_str (fin_bl I q dec_str)
    | _ => exact absurd (show false = true from hs) Bool.false_ne_true
  | byt i =>
    obtain ⟨t, rfl⟩ := rx
    cases y with
    | byt j => obtain ⟨t', rfl⟩ := ry; exact PySem.W.eq_bytes (fin_bl I q dec_byt)
    | _ => exact absurd (show false = true from hs) Bool.false_ne_true
  | _ => cases y <;> exact absurd (show false = true from hs) Bool.false_ne_true
theorem op_ne : OpR X (compareOp .NotEq) rNe := by
  intro pins s σ H x y v u Q I rx ry h
  obtain ⟨hs, q⟩ := h
  cases x with
  | non =>
    cases rx
    cases y with
    | non => cases ry; exact PySem.EqNone.ne_none_none (fin_bl I q (by simp))
    | bl j => cases ry; exact PySem.EqNone.ne_none_bool (fin_bl I q (by simp))
    | int j => obtain ⟨t', rfl⟩ := ry; exact PySem.EqNone.ne_none_int (fin_bl I q (by simp))
    | str j => obtain ⟨t', rfl⟩ := ry; exact PySem.EqNone.ne_none_str (fin_bl I q (by simp))
    | _ => exact absurd (show false = true from hs) Bool.false_ne_true
  | bl i =>
    cases rx
    cases y with
    | non => cases ry; exact PySem.EqNone.ne_bool_none (fin_bl I q (by simp))
    | bl j => cases ry; exact ne_bool (fin_bl I q (congrArg not dec_bl))
    | str j => obtain ⟨t', rfl⟩ := ry; exact PySem.EqMixed.ne_bool_str (fin_bl I q (by simp))
    | _ => exact absurd (show false = true from hs) Bool.false_ne_true
  | int i =>
    obtain ⟨t, rfl⟩ := rx
    cases y with
    | non => cases ry; exact PySem.EqNone.ne_int_none (fin_bl I q (by simp))
    | int j => obtain ⟨t', rfl⟩ := ry; exact ne_int (fin_bl I q (congrArg not dec_int))
    | str j => obtain ⟨t', rfl⟩ := ry; exact PySem.EqMixed.ne_int_str (fin_bl I q (by simp))
    | _ => exact absurd (show false = true from hs) Bool.false_ne_true
  | str i =>
    obtain ⟨t, rfl⟩ := rx
    cases y with
    | non => cases ry; exact PySem.EqNone.ne_str_none (fin_bl I q (by simp))
    | bl j => cases ry; exact PySem.EqMixed.ne_str_bool (fin_bl I q (by simp))
    | int j => obtain ⟨t', rfl⟩ := ry; exact PySem.EqMixed.ne_str_int (fin_bl I q (by simp))
    | str j => obtain ⟨t', rfl⟩ := ry; exact ne_str (fin_bl I q (congrArg not dec_str))
    | _ => exact absurd (show false = true from hs) Bool.false_ne_true
  | byt i =>
    obtain ⟨t, rfl⟩ := rx
    cases y with
    | byt j => obtain ⟨t', rfl⟩ := ry; exact PySem.W.ne_bytes (fin_bl I q (congrArg not dec_byt))
    | _ => exact absurd (show false = true from hs) Bool.false_ne_true
  | _ => cases y <;> exact absurd (show false = true from hs) Bool.false_ne_true
theorem op_lt : OpR X (compareOp .Lt) (rI0 fun i j => .bl (decide (i < j))) := opB0 fun _ _ _ _ _ _ _ q => lt_int q
theorem op_le : OpR X (compareOp .LtE) (rI0 fun i j => .bl (decide (i ≤ j))) := opB0 fun _ _ _ _ _ _ _ q => le_int q
theorem op_gt : OpR X (compareOp .Gt) (rI0 fun i j => .bl (decide (j < i))) := opB0 fun _ _ _ _ _ _ _ q => gt_int q
theorem op_ge : OpR X (compareOp .GtE) (rI0 fun i j => .bl (decide (j ≤ i))) := opB0 fun _ _ _ _ _ _ _ q => ge_int q
theorem op_isN : OpR X (compareOp .Is) (fun x y H Q => y = .non ∧ Q (.bl (decide (x = .non))) H) := by
  intro pins s σ H x y v u Q I rx ry h
  obtain ⟨rfl, q⟩ := h
  cases ry
  refine is_none_gen (fin_bl I q ?_)
  cases x <;> first
    | (cases rx; rfl)
    | (obtain ⟨t, rfl⟩ := rx; rfl)
theorem nomark (b : Expr) {op : CmpOp} (h : op ≠ .In := by decide) (h2 : op ≠ .NotIn := by decide) : behindInMarks op b = false := by
  have e1 : (op == CmpOp.In) = false := by cases op <;> first | rfl | exact absurd rfl h
  have e2 : (op == CmpOp.NotIn) = false := by cases op <;> first | rfl | exact absurd rfl h2
  cases b <;> simp [behindInMarks, e1, e2]
theorem pe_cmpR {op : CmpOp} {r : R2} (ho : OpR X (compareOp op) r) (ha : PE X a ta) (hb : PE X b tb) (hm : behindInMarks op b = false) : PE X (.Compare a [op] [b] pos) (tOp r ta tb) := by
  intro pins s σ H Q I h
  exact wpAny_Compare1 (binT ha hb I h fun v u s2 x y H2 I2 rx ry q => ho pins s2 σ H2 x y v u Q I2 rx ry q) hm
noncomputable def tTest (t : TE) : TT := fun σ H Q => t σ H fun x H' => ∃ k, x = .bl k ∧ Q k H'
theorem pt_cmpR {op : CmpOp} {r : R2} (ho : OpR X (compareOp op) r) (ha : PE X a ta) (hb : PE X b tb) (hm : behindInMarks op b = false) : PT X (.Compare a [op] [b] pos) (tTest (tOp r ta tb)) := by
  intro pins s σ H Q I h
  refine wpAny_isTrue_Compare1 (thn (ha pins s σ H _ I h) fun v s1 ⟨x, H1, I1, r1, q1⟩ => thn (hb pins s1 σ H1 _ I1 q1) fun u s2 ⟨y, H2, I2, r2, q2⟩ =>
    thn (ho pins s2 σ H2 x y v u _ I2 r1 r2 q2) fun c s3 ⟨z, H3, I3, r3, k, e, q3⟩ => ?_) hm
  subst e
  cases r3
  exact wpAny_truthy_bool ⟨H3, I3, q3⟩
noncomputable def tChain (r r' : R2) (ta tb tc : TE) : TE := fun σ H Q => ta σ H fun x H1 => tb σ H1 fun y H2 => r x y H2 fun z H3 => ∃ k, z = .bl k ∧
  (if k = true then tc σ H3 fun w' H4 => r' y w' H4 Q else Q (.bl false) H3)
theorem pe_chain {op op' : CmpOp} {r r' : R2} (ho : OpR X (compareOp op) r) (ho' : OpR X (compareOp op') r') (ha : PE X a ta) (hb : PE X b tb) (hc : PE X c tc)
    (hm : lastMarks [op, op'] [b, c] = false := by with_unfolding_all rfl) : PE X (.Compare a [op, op'] [b, c] pos) (tChain r r' ta tb tc) := by
  intro pins s σ H Q I h
  refine Compare_chain (thn (ha pins s σ H _ I h) fun v s1 ⟨x, H1, I1, r1, q1⟩ => chain_link (thn (hb pins s1 σ H1 _ I1 q1) fun u s2 ⟨y, H2, I2, r2, q2⟩ =>
    thn (ho pins s2 σ H2 x y v u _ I2 r1 r2 q2) fun d s3 ⟨z, H3, I3, r3, k, e, q3⟩ => ?_)) hm
  subst e
  cases r3
  refine wpAny_truthy_bool ?_
  cases k with
  | false => exact ite_ff ⟨.bl false, H3, I3, rfl, q3⟩
  | true => exact ite_tt (chain_last (thn (hc pins s3 σ H3 _ I3 q3) fun w' s4 ⟨z', H4, I4, r4, q4⟩ => ho' pins s4 σ H4 y z' u w' Q I4 r2 r4 q4))
theorem line63 : (sizeLine : Nat) < 2 ^ 63 := by rw [sizeLine_eq]; decide
theorem vals1 {x : V} {us : List Value} (r : Vals [x] us) : ∃ u, us = [u] ∧ RelV x u := by
  cases r with
  | cons r1 r2 => cases r2; exact ⟨_, rfl, r1⟩
theorem vals2 {x y : V} {us : List Value} (r : Vals [x, y] us) : ∃ u w', us = [u, w'] ∧ RelV x u ∧ RelV y w' := by
  cases r with
  | cons r1 r2 =>
    cases r2 with
    | cons r3 r4 => cases r4; exact ⟨_, _, rfl, r1, r3⟩
theorem call_abs : CallR X (.builtin "abs") (fun xs H Q => ∃ i, xs = [.int i] ∧ Q (.int (if i < 0 then -i else i)) H) := by
  intro pins s σ H xs us Q I r h
  obtain ⟨i, rfl, q⟩ := h
  obtain ⟨u, rfl, t, rfl⟩ := vals1 r
  exact call_abs_int fun u tk => ⟨.int (if i < 0 then -i else i), H, I.tok _, ⟨_, rfl⟩, q⟩
theorem call_max2 (hc : X.calm = true) : CallR X (.builtin "max") (fun xs H Q => ∃ i j, xs = [.int i, .int j] ∧ Q (.int (if j > i then j else i)) H) := by
  intro pins s σ H xs us Q I r h
  obtain ⟨i, j, rfl, q⟩ := h
  obtain ⟨u, w', rfl, ⟨t, rfl⟩, ⟨t', rfl⟩⟩ := vals2 r
  refine max_two_ints (I.ok.hd hc) fun h' tk k => ⟨_, H, I.kept k, ?_, q⟩
  by_cases hj : j > i
  · rw [if_pos hj, if_pos hj]; exact ⟨_, rfl⟩
  · rw [if_neg hj, if_neg hj]; exact ⟨_, rfl⟩
theorem call_min2 (hc : X.calm = true) : CallR X (.builtin "min") (fun xs H Q => ∃ i j, xs = [.int i, .int j] ∧ Q (.int (if j < i then j else i)) H) := by
  intro pins s σ H xs us Q I r h
  obtain ⟨i, j, rfl, q⟩ := h
  obtain ⟨u, w', rfl, ⟨t, rfl⟩, ⟨t', rfl⟩⟩ := vals2 r
  refine min_two_ints (I.ok.hd hc) fun h' tk k => ⟨_, H, I.kept k, ?_, q⟩
  by_cases hj : j < i
  · rw [if_pos hj, if_pos hj]; exact ⟨_, rfl⟩
  · rw [if_neg hj, if_neg hj]; exact ⟨_, rfl⟩
theorem call_int1 : CallR X (.type "int") (fun xs H Q => (∃ i, xs = [.int i] ∧ Q (.int i) H) ∨ ∃ k, xs = [.bl k] ∧ Q (.int (if k then 1 else 0)) H) := by
  intro pins s σ H xs us Q I r h
  rcases h with ⟨i, rfl, q⟩ | ⟨k, rfl, q⟩
  · obtain ⟨u, rfl, t, rfl⟩ := vals1 r
    exact call_int_int ⟨.int i, H, I, ⟨_, rfl⟩, q⟩
  · obtain ⟨u, rfl, r1⟩ := vals1 r
    cases r1
    exact call_int_bool ⟨.int (if k then 1 else 0), H, I.tok _, ⟨_, rfl⟩, q⟩
end
end L2
namespace L2
open PySem PySem.Spec PyProof.Rows
structure ObjM (h : Heap) (x dx C : Addr) (mA : Str → Option Value) : Prop where
  obj : h.get? x = some (PySem.W.instObj C dx)
  ns : h.Ns1 dx mA
  ne : dx ≠ x
theorem lookIn_ns {h : Heap} {dx : Addr} {mA : Str → Option Value} (n : h.Ns1 dx mA) : ∃ od, h.get? dx = some od ∧ ∀ name, PySem.W.lookIn name od = some (mA name) := by
  obtain ⟨o, es, ep, ho, hd, hk, _, hm⟩ := n
  refine ⟨o, ho, fun name => ?_⟩
  have e := hm name
  unfold nsFind findBy at e
  rw [← Array.find?_toList] at e
  unfold PySem.W.lookIn
  rw [hd]
  dsimp only
  split
  · rename_i y q
    rw [q] at e
    exact congrArg some e
  · rename_i q
    rw [q] at e
    have a : es.toList.any (·.refKey) = false := by
      rw [List.any_eq_false]
      intro y hy
      obtain ⟨z, t, hkey⟩ := hk y (Array.mem_toList_iff.mp hy)
      simp [DictEntry.refKey, hkey]
    have a' : ¬ es.toList.any (·.refKey) = true := by rw [a]; exact Bool.false_ne_true
    rw [if_neg a']
    exact congrArg some e
theorem ObjM.look {h : Heap} {x dx C : Addr} {mA : Str → Option Value} (I : ObjM h x dx C mA) : ∃ od, PySem.W.InstAt h x (PySem.W.instObj C dx) C (some od) ∧ ∀ name, PySem.W.lookIn name od = some (mA name) :=
  let ⟨od, ho, hl⟩ := lookIn_ns I.ns
  ⟨od, ⟨I.obj, rfl, rfl, ho⟩, hl⟩
section
variable {prog : Program} {w : World} {A : Around} {E : Value → Shared → Prop} {s : Shared} {K : PySem.W.Frag} {x dx C f : Addr} {mA : Str → Option Value} {name : Str} {v : Value}
end
section
variable {P : Program} {w : World} {H H' : Hp} {h h' : Heap} {a C dx : Addr} {fs fs' : List (Str × V)}
theorem ins_get (hok : HOk P w H h) (e : H a = some (.ins C dx fs)) : ∃ mA, ObjM h a dx C mA ∧ (∀ f, RelO (fs.lookup f) (mA f)) ∧ PySem.Within mA (fs.map (·.1)) ∧ fs.length ≤ 1000 ∧ H dx = some (.own a) := by
  obtain ⟨d, z, ne, ob, mA, n, r, q⟩ := (show ObjOk P w H h a (.ins C dx fs) from hok a _ e)
  exact ⟨mA, ⟨ob, n, ne⟩, r, q, z, d⟩
end
structure Cls (K : PySem.W.Frag) (C : Addr) : Prop where
  pg : PySem.W.plainGet K C Str.empty = true
  hd : PySem.W.hasDictIn K C = true
  po : PySem.W.plainOver K C = true
  sa : PySem.W.findIn K (.ref C) "__setattr__" = some (some (.builtin "object.__setattr__"))
theorem Cls.get {K : PySem.W.Frag} {C : Addr} (c : Cls K C) (f : Str) : PySem.W.plainGet K C f = true := c.pg
structure Con (K : PySem.W.Frag) (C : Addr) (f : Str) (v : V) (u : Value) : Prop where
  at_ : PySem.W.findIn K (.ref C) f = some (some u)
  rel : RelV v u
  get : PySem.W.specialIn K u "__get__" = some none
  cp : PySem.W.copiedNames.contains f = false
structure Meth (K : PySem.W.Frag) (C : Addr) (m : Str) (f : Addr) : Prop where
  at_ : PySem.W.findIn K (.ref C) m = some (some (.ref f))
  fn : PySem.W.isFn K (.ref f) = true
  kp : PySem.W.keepIn K (.ref f) = true
section
variable {X : Cx} {pins : List (Addr × Obj)} {σ : St} {H : Hp} {s : Shared} {a C dx : Addr} {fs : List (Str × V)} {f : Str} {v : V} {A : Around} {E : Value → Shared → Prop}
end
section
variable {X : Cx} {o e value : Expr} {f : Str} {pos pos' tpos : Pos} {ta tv : TE}
end
section
variable {X : Cx} {pins : List (Addr × Obj)} {σ : St} {H : Hp} {s : Shared} {A : Around} {E : Value → Shared → Prop} {Q : Value → Shared → Prop} {c : Value} {b : Bool}
inductive TyOf (K : PySem.W.Frag) (H : Hp) : V → Value → Prop where
  | non : TyOf K H .non (.type "NoneType")
  | bl (x : Bool) : TyOf K H (.bl x) (.type "bool")
  | int (i : Int) : TyOf K H (.int i) (.type "int")
  | str (x : Str) : TyOf K H (.str x) (.type "str")
  | flt (x : UInt64) : TyOf K H (.flt x) (.type "float")
  | lst {a : Addr} {xs : List V} (e : H a = some (.lst xs)) : TyOf K H (.ref a) (.type "list")
  | frz {a : Addr} {o : Obj} {xs : List V} (e : H a = some (.frz o (.lst xs))) : TyOf K H (.ref a) (.type "list")
  | tup {a : Addr} {xs : List V} (e : H a = some (.tup xs)) : TyOf K H (.ref a) (.type "tuple")
  | dK {a : Addr} {kvs : List (Key × V)} (e : H a = some (.dK kvs)) : TyOf K H (.ref a) (.type "dict")
  | dT {a : Addr} {kvs : List (List Key × V)} (e : H a = some (.dT kvs)) : TyOf K H (.ref a) (.type "dict")
  | ins {a C dx : Addr} {fs : List (Str × V)} (e : H a = some (.ins C dx fs)) (cl : Cls K C) (ha : PySem.W.findIn K (.ref C) "__class__" = some (some (.builtin "object.__class__")))
      (hn : PySem.W.specialIn K (.builtin "object.__class__") "__get__" = some (some (.builtin "getset_descriptor.__get__"))) (htk : PySem.W.takesIn K (.builtin "object.__class__") = some true)
      (hm : PySem.W.mroIn K C (.type "object") = some true) : TyOf K H (.ref a) (.ref C)
theorem isinst_ok {x : V} {u t : Value} (I : Inv X pins σ H s) (rx : RelV x u) (ty : TyOf X.K H x t) (e : PySem.W.kitOne X.K t c = some b) (h : ∀ tk, Q (.bool b) { s with toks := tk }) :
    wpAny (model X.prog X.w) A (call (.builtin "isinstance") [u, c]) Q E s := by
  cases ty with
  | non => cases (show u = Value.none from rx); exact PySem.W.kia_one PySem.W.kitx_none I.kIn True.intro e (fun z => nomatch z) h
  | bl y => cases (show u = Value.bool y from rx); exact PySem.W.kia_one PySem.W.kitx_bool I.kIn True.intro e (fun z => nomatch z) h
  | int i => obtain ⟨t, q⟩ := (show ∃ t, u = Value.int i t from rx); cases q; exact PySem.W.kia_one PySem.W.kitx_int I.kIn True.intro e (fun z => nomatch z) h
  | str y => obtain ⟨t, q⟩ := (show ∃ t, u = Value.str y t from rx); cases q; exact PySem.W.kia_one PySem.W.kitx_str I.kIn True.intro e (fun z => nomatch z) h
  | flt y => obtain ⟨t, q⟩ := (show ∃ t, u = Value.float y t from rx); cases q; exact PySem.W.kia_one PySem.W.kitx_float I.kIn True.intro e (fun z => nomatch z) h
  | @lst a xs ea =>
    cases (show u = Value.ref a from rx)
    obtain ⟨_, _, n, _, h1⟩ := (show ObjOk X.prog X.w H s.heap a (.lst xs) from I.hok a _ ea)
    exact PySem.W.kia_one PySem.W.kitx_list I.kIn ⟨_, h1, rfl⟩ e (fun z => nomatch z) h
  | @frz a ob xs ea =>
    cases (show u = Value.ref a from rx)
    obtain ⟨_, _, _, n, _, h1⟩ := (show ObjOk X.prog X.w H s.heap a (.frz ob (.lst xs)) from I.hok a _ ea)
    exact PySem.W.kia_one PySem.W.kitx_list I.kIn ⟨_, h1, rfl⟩ e (fun z => nomatch z) h
  | @tup a xs ea =>
    cases (show u = Value.ref a from rx)
    obtain ⟨_, _, _, p⟩ := (show ObjOk X.prog X.w H s.heap a (.tup xs) from I.hok a _ ea)
    obtain ⟨o, h1, h2, _⟩ := p
    exact PySem.W.kia_one PySem.W.kitx_tuple I.kIn ⟨o, h1, h2⟩ e (fun z => nomatch z) h
  | @dK a kvs ea =>
    cases (show u = Value.ref a from rx)
    obtain ⟨_, _, vs, _, p⟩ := (show ObjOk X.prog X.w H s.heap a (.dK kvs) from I.hok a _ ea)
    obtain ⟨o, es, ep, h1, h2, _⟩ := p
    exact PySem.W.kia_one PySem.W.kitx_dict I.kIn ⟨o, h1, h2.1⟩ e (fun z => nomatch z) h
  | @dT a kvs ea =>
    cases (show u = Value.ref a from rx)
    obtain ⟨_, _, xs, _, o, es, ep, h1, h2, _⟩ := (show ObjOk X.prog X.w H s.heap a (.dT kvs) from I.hok a _ ea)
    exact PySem.W.kia_one PySem.W.kitx_dict I.kIn ⟨o, h1, h2.1⟩ e (fun z => nomatch z) h
  | @ins a C dx fs ea cl ha hn htk hm =>
    cases (show u = Value.ref a from rx)
    obtain ⟨mA, O, _⟩ := ins_get I.hok ea
    obtain ⟨od, J, _⟩ := O.look
    exact PySem.W.kia_one (PySem.W.kitx_own (cl.get _) cl.hd ha hn htk hm) I.kIn J e (fun z => nomatch z) h
end
end L2
namespace L2
open PySem PySem.Spec PyProof.Rows
structure Room (k : Nat) (A : Around) : Prop where
  hd : A.handled = none
  dp : A.depth + 3 * k + 5 < recursionLimit
  un : A.units + 16 * k + 200 < cLine
theorem Room.mono {j k : Nat} {A : Around} (r : Room k A) (h : j ≤ k) : Room j A := ⟨r.hd, by have := r.dp; omega, by have := r.un; omega⟩
theorem Room.deeper {k : Nat} {A : Around} (r : Room (k + 1) A) (env : Env) : Room k (A.deeper env) :=
  ⟨r.hd, by have := r.dp; show A.depth + 1 + 3 * k + 5 < _; omega, by have := r.un; show A.units + 3 + 16 * k + 200 < _; omega⟩
theorem Room.in1 {k : Nat} {A : Around} (r : Room (k + 1) A) : Room k A.in1 :=
  ⟨r.hd, by have := r.dp; show A.depth + 3 * k + 5 < _; omega, by have := r.un; show A.units + 1 + 16 * k + 200 < _; omega⟩
theorem Room.depth {k : Nat} {A : Around} (r : Room k A) : A.depth < recursionLimit := by have := r.dp; omega
theorem Room.units {k : Nat} {A : Around} (r : Room k A) : A.units + 64 < cLine := by have := r.un; omega
noncomputable def tNil : TA := fun _ H Q => Q [] H
noncomputable def tCons (ta : TE) (tr : TA) : TA := fun σ H Q => ta σ H fun x H1 => tr σ H1 fun xs H2 => Q (x :: xs) H2
section
variable {X : Cx} {e : Expr} {es : List Expr} {te : TE} {t : TA} {pos : Pos}
theorem pa_nil : PA X [] tNil := fun _ _ _ _ H Q I h => Calls.spliced_nil ⟨[], H, I, .nil, h⟩
theorem pa_cons (ha : PE X e te) (hr : PA X es t) (hs : starEach (e :: es) X.env = (false, eval e X.env) :: starEach es X.env := by rfl) : PA X (e :: es) (tCons te t) := by
  intro pos pins s σ H Q I h
  rw [hs]
  show wpAny _ _ (spliced ((false, eval e X.env) :: backTo pos (starEach es X.env))) _ _ s
  refine Calls.spliced_cons (thn (ha pins s σ H _ I h) fun u s1 ⟨x, H1, I1, r1, q1⟩ => ?_)
  exact thn (hr pos pins s1 σ H1 _ I1 q1) fun us s2 ⟨xs, H2, I2, r2, q2⟩ => ⟨x :: xs, H2, I2, .cons r1 r2, q2⟩
noncomputable def tTup (t : TA) : TE := fun σ H Q => t σ H fun xs H1 => xs.length ≤ sizeLine ∧ ∀ p, H1 p = none → Q (.ref p) (upd H1 p (.tup xs))
noncomputable def tLst (t : TA) : TE := fun σ H Q => t σ H fun xs H1 => xs.length ≤ sizeLine ∧ ∀ p, H1 p = none → Q (.ref p) (upd H1 p (.lst xs))
theorem pe_tup {x1} (h : PA X es t) : PE X (.Tuple es x1 pos) (tTup t) := by
  intro pins s σ H Q I hq
  refine wpAny_Tuple_spliced (thn (h pos pins s σ H _ I hq) fun us s1 ⟨xs, H1, I1, r, z, q⟩ => ⟨by rw [← r.length]; exact z, ?_⟩)
  have hf : H1 s1.heap.objs.size = none := I1.hok.fresh (Nat.le_refl _)
  refine ⟨.ref s1.heap.objs.size, upd H1 s1.heap.objs.size (.tup xs), I1.laid (t' := s1.toks) (fun b u e => Heap.get?_push_of_some _ e) (Nat.le_refl _) ?_, rfl, q _ hf⟩
  exact ⟨z, us, r, ⟨_, Heap.get?_push_size _ rfl, rfl, _, rfl⟩⟩
theorem pe_lst (h : PA X es t) : PE X (.List es pos) (tLst t) := by
  intro pins s σ H Q I hq
  refine wpAny_List_spliced (thn (h pos pins s σ H _ I hq) fun us s1 ⟨xs, H1, I1, r, z, q⟩ => ⟨by rw [← r.length]; exact z, ?_⟩)
  have hf : H1 s1.heap.objs.size = none := I1.hok.fresh (Nat.le_refl _)
  refine ⟨.ref s1.heap.objs.size, upd H1 s1.heap.objs.size (.lst xs), I1.laid (t' := s1.toks) (fun b u e => Heap.get?_push_of_some _ e) (Nat.le_refl _) ?_, rfl, q _ hf⟩
  exact ⟨z, us, 0, r, Heap.get?_push_size _ rfl⟩
end
noncomputable abbrev Sp := List V → Hp → VK → XK → Prop
noncomputable abbrev CXT := List Env → Hp → Shared → XK → Value → Shared → Prop
structure Env0 (P : Program) (w : World) (K : PySem.W.Frag) (mg : Str → Option Value) (base : Heap) (A : Around) (outer : List Env) (s : Shared) (H : Hp) : Prop where
  frames : A.frames = some outer
  mod : Mod K mg base
  bs : ∀ b o, base.get? b = some o → s.heap.get? b = some o ∧ H b = none
  bsz : base.objs.size ≤ s.heap.objs.size
  funs : s.heap.FunFrames base outer
  frf : ∀ b ∈ frs outer, H b = none
  hok : HOk P w H s.heap
  bare : AllBare s.gens
noncomputable def CE (outer : List Env) (P : Program) (w : World) (H : Hp) (s : Shared) (Q : VK) (u : Value) (s' : Shared) : Prop :=
  ∃ v H', s'.os = s.os ∧ AllBare s'.gens ∧ Un (frs outer) [] H H' s.heap s'.heap ∧ HOk P w H' s'.heap ∧ RelV v u ∧ Q v H'
noncomputable def CR (CX : CXT) (outer : List Env) (P : Program) (w : World) (H : Hp) (s : Shared) (Q : VK) (E : XK) (r : Result) (s' : Shared) : Prop :=
  match r with
  | .ok (.ret u) => CE outer P w H s Q u s'
  | .ok _ => False
  | .error e => CX outer H s E e s'
structure FnOk (P : Program) (w : World) (K : PySem.W.Frag) (mg : Str → Option Value) (base : Heap) (CX : CXT) (k : Nat) (f : Addr) (fd : FuncData) (ps : List Str) (sp : Sp) : Prop where
  len : ∀ vs H Q E, sp vs H Q E → vs.length = ps.length
  run : ∀ (A : Around) (outer : List Env) (s : Shared) (H : Hp) (args : Args) (us : List Value) (vs : List V) (Q : VK) (E : XK), Room k A → Env0 P w K mg base A outer s H → BindsTo s fd args (ps.zip us) → Vals vs us → sp vs H Q E →
    codeAny (model P w) A (.call (.ref f) args) (CR CX outer P w H s Q E) s
theorem FnOk.mono {P : Program} {w : World} {K : PySem.W.Frag} {mg : Str → Option Value} {base : Heap} {CX : CXT} {j k : Nat} {f : Addr} {fd : FuncData} {ps : List Str} {sp : Sp} (F : FnOk P w K mg base CX j f fd ps sp) (h : j ≤ k) :
    FnOk P w K mg base CX k f fd ps sp := ⟨F.len, fun A outer s H args us vs Q E hr => F.run A outer s H args us vs Q E (hr.mono h)⟩
theorem FnOk.imp {P : Program} {w : World} {K : PySem.W.Frag} {mg : Str → Option Value} {base : Heap} {CX : CXT} {k : Nat} {f : Addr} {fd : FuncData} {ps : List Str} {sp sp' : Sp} (F : FnOk P w K mg base CX k f fd ps sp)
    (h : ∀ vs H Q E, sp' vs H Q E → sp vs H Q E) : FnOk P w K mg base CX k f fd ps sp' :=
  ⟨fun vs H Q E q => F.len vs H Q E (h _ _ _ _ q), fun A outer s H args us vs Q E hr he hb hv hs => F.run A outer s H args us vs Q E hr he hb hv (h _ _ _ _ hs)⟩
theorem Env0.in1 {P : Program} {w : World} {K : PySem.W.Frag} {mg : Str → Option Value} {base : Heap} {A : Around} {outer : List Env} {s : Shared} {H : Hp} (e : Env0 P w K mg base A outer s H) :
    Env0 P w K mg base A.in1 outer s H := ⟨e.frames, e.mod, e.bs, e.bsz, e.funs, e.frf, e.hok, e.bare⟩
section
variable {X : Cx} {pins : List (Addr × Obj)} {σ : St} {H : Hp} {s s' : Shared}
theorem Inv.env0 (I : Inv X pins σ H s) : Env0 X.prog X.w X.K X.mg X.base X.A X.stack s H :=
  ⟨I.ok.frames, I.ok.mod, I.bs, Nat.le_trans I.ok.bsz I.sz, I.stack, I.stkFree, I.hok, I.bare⟩
theorem Inv.after {Q : VK} {u : Value} (I : Inv X pins σ H s) (h : CE X.stack X.prog X.w H s Q u s') : EP X pins σ Q u s' := by
  obtain ⟨v, H', os, bare, un, hok, r, q⟩ := h
  obtain ⟨hh, g, d, t, os'⟩ := s'
  obtain rfl : os' = s.os := os
  exact ⟨v, H', I.call (h' := hh) (g' := g) (d' := d) (t' := t) (ch := []) un hok bare (fun b z => absurd z (by simp)), r, q⟩
end
noncomputable def tCall (sp : Sp) (dvs : List V) (E : XK) (t : TA) : TE := fun σ H Q => t σ H fun vs H1 => sp (vs ++ dvs) H1 Q E
noncomputable def Binds (K : PySem.W.Frag) (fd : FuncData) (ps : List Str) (ds : List Value) : Prop :=
  ∀ (s : Shared) (us : List Value), K.In s.heap → (us ++ ds).length = ps.length → BindsTo s fd ⟨us, []⟩ (ps.zip (us ++ ds))
theorem Binds.all {K : PySem.W.Frag} {fd : FuncData} {ps : List Str} (h : ∀ us : List Value, us.length = ps.length → bindArgs fd ⟨us, []⟩ = pure (ps.zip us)) : Binds K fd ps [] := fun s us _ hl => by
  rw [List.append_nil] at hl ⊢
  exact .of_eq (h us hl)
noncomputable def Passes (CX : CXT) (X : Cx) (E : XK) : Prop := ∀ (pins : List (Addr × Obj)) (σ : St) (H : Hp) (s : Shared) (e : Value) (s' : Shared), Inv X pins σ H s → CX X.stack H s E e s' → X.xe e s'
section
variable {X : Cx} {CX : CXT} {k : Nat} {f C : Addr} {fd : FuncData} {ps : List Str} {sp : Sp} {dvs : List V} {ds : List Value} {E : XK} {x m : Str} {p pos apos : Pos} {e o : Expr} {es : List Expr} {ta : TE} {t : TA}
theorem run_fn {pins : List (Addr × Obj)} {σ : St} {H : Hp} {s : Shared} {Q : VK} {us : List Value} {vs : List V} (F : FnOk X.prog X.w X.K X.mg X.base CX k f fd ps sp) (hr : Room k X.A) (hb : Binds X.K fd ps ds) (hd : Vals dvs ds) (hx : Passes CX X E)
    (I : Inv X pins σ H s) (r : Vals vs us) (h : sp (vs ++ dvs) H Q E) : wpAny (model X.prog X.w) X.A (call (.ref f) us) (EP X pins σ Q) X.xe s := by
  have r2 : Vals (vs ++ dvs) (us ++ ds) := r.append hd
  have hl : (us ++ ds).length = ps.length := by rw [← r2.length]; exact F.len _ _ _ _ h
  refine wpAny_call (codeAny_mono (F.run X.A X.stack s H ⟨us, []⟩ (us ++ ds) (vs ++ dvs) Q E hr I.env0 (hb s us I.kIn hl) r2 h) fun r s' hq => ?_)
  cases r with
  | error e => exact hx pins σ H s e s' I hq
  | ok fl =>
    cases fl with
    | ret u => exact I.after hq
    | next => exact False.elim hq
    | brk => exact False.elim hq
    | cont => exact False.elim hq
theorem pe_call (F : FnOk X.prog X.w X.K X.mg X.base CX k f fd ps sp) (hr : Room k X.A) (hg : Gl X x) (hm : X.mg x = some (.ref f)) (hk : PySem.W.keepIn X.K (.ref f) = true) (hb : Binds X.K fd ps ds) (hd : Vals dvs ds) (hx : Passes CX X E)
    (ha : PA X (e :: es) t) (hdb : (x == ("__debug__" : Str)) = false := by decide) (he : starEach (e :: es) X.env = (false, eval e X.env) :: starEach es X.env := by rfl) (hpl : (backTo pos (starEach es X.env)).any (·.1) = false := by rfl) :
    PE X (.Call (.Name x p) (e :: es) [] pos) (tCall sp dvs E t) := by
  intro pins s σ H Q I h
  refine wpAny_Call_Name_kw (ld_glob I hg hm ?_ hdb)
  refine PySem.W.callWith_K (h₀ := X.base) I.ok.mod.kin hk (thn (ha pos pins s σ H _ I h) fun us s1 ⟨vs, H1, I1, r, q⟩ => ⟨I1.kIn, ?_⟩) he hpl
  exact run_fn F hr hb hd hx I1 r q
structure Mk (K : PySem.W.Frag) (C f : Addr) : Prop where
  makes : PySem.W.makesIn K C = true
  init : PySem.W.findIn K (.ref C) "__init__" = some (some (.ref f))
  fn : PySem.W.isFn K (.ref f) = true
  kp : PySem.W.keepIn K (.ref C) = true
end
section
variable {X : Cx} {CX : CXT} {k : Nat} {f C : Addr} {fd : FuncData} {ps ks : List Str} {sp : Sp} {E : XK} {x m : Str} {p pos apos kpos : Pos} {e o : Expr} {es : List Expr} {kws : List Keyword} {te ta : TE} {t tk : TA} {nm : Option Str}
structure KBinds (K : PySem.W.Frag) (fd : FuncData) (ps ks : List Str) (g : List Value → List Value → List Value) (gV : List V → List V → List V) : Prop where
  to : ∀ (s : Shared) (us ws : List Value), K.In s.heap → (g us ws).length = ps.length → BindsTo s fd ⟨us, ks.zip ws⟩ (ps.zip (g us ws))
  rel : ∀ {vs : List V} {us : List Value} {zs : List V} {ws : List Value}, Vals vs us → Vals zs ws → Vals (gV vs zs) (g us ws)
variable {g : List Value → List Value → List Value} {gV : List V → List V → List V}
end
structure FnScope (N P : List Str) (sc : Scope) : Prop where
  kind : sc.kind = .function
  co : sc.isCoroutine = false
  gen : sc.isGenerator = false
  nd : N.Nodup
  pre : N.take P.length = P
  par : ∀ x ∈ P, sc.names.lookup x = some .local ∨ sc.names.lookup x = some .cell
  nofree : ∀ y ∈ sc.names, y.2 ≠ .free
theorem bindL_out {kindOf : Str → Option NameKind} {x : Str} : ∀ {binds : List (Str × Value)} {m : Str → Option Value}, (∀ v, (x, v) ∉ binds) → bindL kindOf binds m x = m x
  | [], _, _ => rfl
  | (n, v) :: r, m, h => by
    unfold bindL
    rw [bindL_out fun w hw => h w (List.mem_cons_of_mem _ hw)]
    split
    · have : x ≠ n := by rintro rfl; exact h v List.mem_cons_self
      simp [this]
    · rfl
theorem bindC_out {kindOf : Str → Option NameKind} {x : Str} : ∀ {binds : List (Str × Value)} {m : Str → Option Value}, (∀ v, (x, v) ∉ binds) → bindC kindOf binds m x = m x
  | [], _, _ => rfl
  | (n, v) :: r, m, h => by
    unfold bindC
    rw [bindC_out fun w hw => h w (List.mem_cons_of_mem _ hw)]
    split
    · rfl
    · have : x ≠ n := by rintro rfl; exact h v List.mem_cons_self
      simp [this]
theorem bindL_get {kindOf : Str → Option NameKind} {x : Str} {v : Value} : ∀ {P : List Str} {vs : List Value} {i : Nat} {m : Str → Option Value}, P.Nodup → P[i]? = some x → vs[i]? = some v → kindOf x = some .local →
    bindL kindOf (P.zip vs) m x = some v
  | [], _, _, _, _, h, _, _ => by simp at h
  | _ :: _, [], _, _, _, _, h, _ => by simp at h
  | p :: P, w :: vs, 0, m, nd, h1, h2, hk => by
    simp at h1 h2; subst h1; subst h2
    show bindL kindOf ((p, w) :: P.zip vs) m p = _
    unfold bindL
    rw [bindL_out fun v hv => (List.nodup_cons.mp nd).1 (List.of_mem_zip hv).1, if_pos hk]
    simp
  | p :: P, w :: vs, i + 1, m, nd, h1, h2, hk => by
    show bindL kindOf ((p, w) :: P.zip vs) m x = _
    unfold bindL
    exact bindL_get (i := i) (List.nodup_cons.mp nd).2 (by simpa using h1) (by simpa using h2) hk
theorem bindC_get {kindOf : Str → Option NameKind} {x : Str} {v : Value} : ∀ {P : List Str} {vs : List Value} {i : Nat} {m : Str → Option Value}, P.Nodup → P[i]? = some x → vs[i]? = some v → kindOf x ≠ some .local →
    bindC kindOf (P.zip vs) m x = some v
  | [], _, _, _, _, h, _, _ => by simp at h
  | _ :: _, [], _, _, _, _, h, _ => by simp at h
  | p :: P, w :: vs, 0, m, nd, h1, h2, hk => by
    simp at h1 h2; subst h1; subst h2
    show bindC kindOf ((p, w) :: P.zip vs) m p = _
    unfold bindC
    rw [bindC_out fun v hv => (List.nodup_cons.mp nd).1 (List.of_mem_zip hv).1, if_neg hk]
    simp
  | p :: P, w :: vs, i + 1, m, nd, h1, h2, hk => by
    show bindC kindOf ((p, w) :: P.zip vs) m x = _
    unfold bindC
    exact bindC_get (i := i) (List.nodup_cons.mp nd).2 (by simpa using h1) (by simpa using h2) hk
noncomputable def start (N : List Str) (vs : List V) : St := vs.map some ++ List.replicate (N.length - vs.length) none
noncomputable def cxOf (CX : CXT) (P : Program) (w : World) (K : PySem.W.Frag) (mg : Str → Option Value) (base : Heap) (N : List Str) (qual : Str) (scope : Scope) (f : Addr) (cd : Value) (A : Around) (outer : List Env) (s : Shared) (H : Hp) (E : XK) : Cx where
  prog := P
  w := w
  K := K
  mg := mg
  base := base
  A := A.deeper (envOfC qual scope s.heap.objs.size f cd)
  N := N
  s₀ := s
  H₀ := H
  env := envOfC qual scope s.heap.objs.size f cd
  outer := outer
  stack := envOfC qual scope s.heap.objs.size f cd :: outer
  ex := []
  calm := true
  fn := fun _ => true
  pn := []
  xe := fun e s' => wpAny (model P w) (A.deeper (envOfC qual scope s.heap.objs.size f cd)) (leaving (envOfC qual scope s.heap.objs.size f cd) e) (fun _ s'' => CX outer H s E e s'') (fun e' s'' => CX outer H s E e' s'') s'
theorem cell_has {sc : Scope} {n : Nat} {x : Str} (h : sc.names.lookup x = some .cell) : ∃ c, (cellsFrom n sc.names []).lookup x = some c := by
  have q := PySem.W.cellsFrom_some sc.names n [] (.inl h)
  exact Option.isSome_iff_exists.mp q
theorem inv_start {CX : CXT} {P : Program} {w : World} {K : PySem.W.Frag} {mg : Str → Option Value} {base : Heap} {N ps : List Str} {qual : Str} {scope : Scope} {f : Addr} {cd : Value} {A : Around} {outer : List Env} {s s1 : Shared} {H : Hp} {E : XK} {us : List Value} {vs : List V}
    (S : FnScope N ps scope) (hd : A.handled = none) (e0 : Env0 P w K mg base A outer s H) (hl : vs.length = ps.length) (r : Vals vs us)
    (x : InCallC s s.heap.objs.size (bindL (envOfC qual scope s.heap.objs.size f cd).kindOf (ps.zip us) fun _ => none) (cellsFrom (s.heap.objs.size + 1) scope.names []) (bindC (envOfC qual scope s.heap.objs.size f cd).kindOf (ps.zip us) fun _ => none) s1) :
    Inv (cxOf CX P w K mg base N qual scope f cd A outer s H E) [] (start N vs) H s1 := by
  have hpl : ps.length ≤ N.length := by have := congrArg List.length S.pre; rw [List.length_take] at this; omega
  obtain ⟨h1, tk, rfl, hk⟩ := x.done
  have noA : ∀ b : Addr, b ∉ (cxOf CX P w K mg base N qual scope f cd A outer s H E).ex := fun b z => absurd (show b ∈ ([] : List Addr) from z) (by simp)
  refine ⟨⟨e0.mod, S.kind, rfl, rfl, Nat.le_refl _, fun y z c h1 h2 => ?_, fun y hy => ?_, fun y c _ h => ?_, fun _ => hd, Around.frames_deeper e0.frames, .inr ⟨rfl, rfl⟩, fun b z => absurd z (noA b), e0.bs, e0.bsz, fun b _ _ => noA b, fun b z => absurd z (noA b), e0.funs, e0.frf⟩,
    rfl, e0.bare, Un.kept hk, ⟨_, x.toInCall.ns, fun i y v h1 h2 h3 => ?_⟩, fun y c h => ⟨_, x.cell y c h⟩, e0.hok.fresh (Nat.le_refl _), fun y c h => ?_, fun p hp => absurd (show p ∈ ([] : List (Addr × Obj)) from hp) (by simp), e0.hok.kept hk, ?_⟩
  · exact name_of_addr x.apart (PySem.mem_of_lookup h1) (PySem.mem_of_lookup h2)
  · have hy : scope.names.lookup y = some .cell ∨ scope.names.lookup y = some .free := hy
    rcases hy with hy | hy
    · exact cell_has hy
    · exact absurd rfl (S.nofree _ (PySem.mem_of_lookup hy))
  · exact Nat.le_of_lt (x.above y c (PySem.mem_of_lookup h))
  · have hi : i < vs.length := by
      unfold start at h2
      by_cases hi : i < vs.length
      · exact hi
      · rw [List.getElem?_append_right (by simpa using hi)] at h2
        rw [List.getElem?_replicate] at h2
        split at h2 <;> cases h2
    have ha : vs[i]? = some v := by
      unfold start at h2
      rw [List.getElem?_append_left (by simpa using hi), List.getElem?_map] at h2
      cases e : vs[i]? with
      | none => rw [e] at h2; cases h2
      | some a => rw [e] at h2; cases h2; rfl
    obtain ⟨u, hu, rv⟩ := r.get ha
    have hp : ps[i]? = some y := by
      rw [← S.pre, List.getElem?_take_of_lt (by omega)]; exact h1
    have ndP : ps.Nodup := by rw [← S.pre]; exact S.nd.sublist (List.take_sublist _ _)
    refine ⟨u, rv, ?_⟩
    rcases S.par y (List.mem_of_getElem? hp) with k | k
    · exact .inl ⟨k, bindL_get ndP hp hu k⟩
    · obtain ⟨c, e⟩ := cell_has (n := s.heap.objs.size + 1) k
      refine .inr ⟨.inl k, c, e, ?_⟩
      have q := x.cell y c e
      rw [bindC_get ndP hp hu (by show scope.names.lookup y ≠ _; rw [k]; decide)] at q
      exact q
  · exact e0.hok.fresh (Nat.le_of_lt (x.above y c (PySem.mem_of_lookup h)))
  · unfold start
    show _ = N.length
    rw [List.length_append, List.length_map, List.length_replicate]
    omega
theorem fn_of {CX : CXT} {P : Program} {w : World} {K : PySem.W.Frag} {mg : Str → Option Value} {base : Heap} {k : Nat} {f : Addr} {name qual : Str} {params : Arguments} {body : List Stmt} {scope : Scope} {dV kV doc pm cdv ct oc : Value} {an od : Option Addr}
    {osl : Array (Option Value)} {N ps : List Str} {sp : Sp} (lk : K.lookup f = some ⟨oc, od, .func (PySem.W.fnOf name qual params body scope dV kV doc pm an cdv ct), osl⟩) (hcd : PySem.W.codeIn K cdv qual = true) (S : FnScope N ps scope)
    (len : ∀ vs H Q E, sp vs H Q E → vs.length = ps.length)
    (hbody : ∀ (A : Around) (outer : List Env) (s : Shared) (H : Hp) (vs : List V) (Q : VK) (E : XK), Room k (A.deeper (envOfC qual scope s.heap.objs.size f cdv)) → sp vs H Q E →
      ∃ t, PSs (cxOf CX P w K mg base N qual scope f cdv A outer s H E) body t ∧ t { nx := fun _ H' => Q .non H', rt := Q } (start N vs) H) :
    FnOk P w K mg base CX (k + 1) f (PySem.W.fnOf name qual params body scope dV kV doc pm an cdv ct) ps sp := by
  refine ⟨len, fun A outer s H args us vs Q E hr e0 hb r hsp => ?_⟩
  have hl := len _ _ _ _ hsp
  have KX : K.In s.heap := e0.mod.kin.keeps fun b o e => (e0.bs b o e).1
  have lim : s.heap.NoLimit := e0.mod.nolimit.keeps fun b o e => (e0.bs b o e).1
  have hkind : ∀ y ∈ ps.zip us, scope.names.lookup y.1 = some .local ∨ (scope.names.lookup y.1 = some .cell ∧ ((cellsFrom (s.heap.objs.size + 1) scope.names []).lookup y.1).isSome = true) := fun ⟨n, v⟩ hy => by
    rcases S.par n (List.of_mem_zip hy).1 with q | q
    · exact .inl q
    · exact .inr ⟨q, PySem.W.cellsFrom_some _ _ _ (.inl q)⟩
  refine codeAny_call_function hr.depth (KX _ _ lk) rfl S.co S.gen rfl (PySem.W.codeRec_of KX hcd) (hb _ _ _ _ ?_)
  refine wpAny_newFunctionEnv_cells S.kind hkind fun env he s1 x => ?_
  subst he
  refine ⟨lim.keeps x.toInCall.keep, codeAny_func ?_⟩
  obtain ⟨t, ht, hq⟩ := hbody A outer s H vs Q E (hr.deeper _) hsp
  have I : Inv (cxOf CX P w K mg base N qual scope f cdv A outer s H E) [] (start N vs) H s1 := inv_start S hr.hd e0 hl r x
  refine wpAny_mono (ht [] s1 (start N vs) H _ I hq) (fun fl s' hs => ?_) fun e s' hs => hs
  have fin : ∀ {σ' : St} {H' : Hp} {v : V} {u : Value}, Inv (cxOf CX P w K mg base N qual scope f cdv A outer s H E) [] σ' H' s' → RelV v u → Q v H' → CE outer P w H s Q u s' :=
    fun {σ' H' v u} J rv q => ⟨v, H', J.os, J.bare, J.base, J.hok, rv, q⟩
  cases fl with
  | ret u =>
    obtain ⟨v, σ', H', J, rv, q⟩ := hs
    exact fin J rv q
  | next =>
    obtain ⟨σ', H', J, q⟩ := hs
    exact fin (v := V.non) (u := Value.none) J rfl q
  | brk =>
    obtain ⟨_, _, _, q⟩ := hs
    exact False.elim q
  | cont =>
    obtain ⟨_, _, _, q⟩ := hs
    exact False.elim q
end L2
namespace L2
open PySem PySem.Spec PyProof.Rows
section
variable {X : Cx} {x : Str} {p pos : Pos} {e : Expr} {es : List Expr} {t : TA} {id T : String} {r : List V → Hp → VK → Prop}
noncomputable def tCB (r : List V → Hp → VK → Prop) (t : TA) : TE := fun σ H Q => t σ H fun vs H1 => r vs H1 Q
theorem pe_callB (hc : CallR X (.builtin id) r) (hg : Gl X x) (hm : X.mg x = none) (hv : bootBuiltins x = some (.builtin id)) (ha : PA X (e :: es) t) (hn : x ≠ "__name__" := by decide) (hdb : (x == ("__debug__" : Str)) = false := by decide)
    (he : starEach (e :: es) X.env = (false, eval e X.env) :: starEach es X.env := by rfl) (hpl : (backTo pos (starEach es X.env)).any (·.1) = false := by rfl) : PE X (.Call (.Name x p) (e :: es) [] pos) (tCB r t) := by
  intro pins s σ H Q I h
  refine wpAny_Call_Name_kw (ld_blt I hg hm hv ?_ hn hdb)
  exact PyProof.Rows.callWith_builtin1 (thn (ha pos pins s σ H _ I h) fun us s1 ⟨vs, H1, I1, r1, q1⟩ => hc pins s1 σ H1 vs us Q I1 r1 q1) he hpl
theorem pe_callTy (hc : CallR X (.type T) r) (hg : Gl X x) (hm : X.mg x = none) (hv : bootBuiltins x = some (.type T)) (ha : PA X (e :: es) t) (hn : x ≠ "__name__" := by decide) (hdb : (x == ("__debug__" : Str)) = false := by decide)
    (he : starEach (e :: es) X.env = (false, eval e X.env) :: starEach es X.env := by rfl) (hpl : (backTo pos (starEach es X.env)).any (·.1) = false := by rfl) : PE X (.Call (.Name x p) (e :: es) [] pos) (tCB r t) := by
  intro pins s σ H Q I h
  refine wpAny_Call_Name_kw (ld_blt I hg hm hv ?_ hn hdb)
  exact PyProof.Rows.callWith_type1 (thn (ha pos pins s σ H _ I h) fun us s1 ⟨vs, H1, I1, r1, q1⟩ => hc pins s1 σ H1 vs us Q I1 r1 q1) he hpl
end
end L2
namespace HT
open PySem PyProof.Rows
section
open PySem.SeqAt
open PySem.AutoSeq1 (wpAny_loadPart')
open PySem.MeetsSeq PySem.MeetsSeq2 PySem.MeetsSeq3
end
section
variable {prog : Program} {w : World} {A : Around} {E : Value → Shared → Prop} {s : Shared}
noncomputable def sIx (n d : Nat) : Option Int → Nat
  | none => d
  | some v => if v < 0 then (v + (n : Int)).toNat else min v.toNat n
theorem sIx_none (n d : Nat) : sIx n d none = d := rfl
theorem sIx_nat (n d k : Nat) : sIx n d (some (k : Int)) = min k n := by
  show (if (k : Int) < 0 then ((k : Int) + (n : Int)).toNat else min (k : Int).toNat n) = min k n
  rw [if_neg (by omega), Int.toNat_natCast]
theorem sIx_le (n d : Nat) (hd : d ≤ n) (o : Option Int) : sIx n d o ≤ n := by
  cases o with
  | none => exact hd
  | some v =>
    show (if v < 0 then (v + (n : Int)).toNat else min v.toNat n) ≤ n
    by_cases hv : v < 0
    · rw [if_pos hv]; omega
    · rw [if_neg hv]; exact Nat.min_le_right _ _
theorem clip_eq (v : Int) (n d : Nat) : (if v < 0 then max (v + (n : Int)) 0 else min v (n : Int)) = ((sIx n d (some v) : Nat) : Int) := by
  show (if v < 0 then max (v + (n : Int)) 0 else min v (n : Int)) = (((if v < 0 then (v + (n : Int)).toNat else min v.toNat n) : Nat) : Int)
  by_cases hv : v < 0
  · simp only [if_pos hv]; omega
  · simp only [if_neg hv]; omega
theorem adjust_gen (lo hi : Option Int) (n : Nat) : Builtin.Slice.sliceAdjust lo hi 1 (n : Int) = (((sIx n 0 lo : Nat) : Int), ((sIx n n hi : Nat) : Int)) := by
  have h1 : ¬ ((1 : Int) < 0) := by omega
  unfold Builtin.Slice.sliceAdjust
  simp only [h1, if_false]
  refine Prod.ext ?_ ?_
  · cases lo with
    | none => rfl
    | some v => exact clip_eq v n 0
  · cases hi with
    | none => rfl
    | some v => exact clip_eq v n n
theorem places_gen (i j : Nat) : Builtin.Slice.slicePlaces (i : Int) (j : Int) 1 = j - i := by
  unfold Builtin.Slice.slicePlaces
  have h1 : (1 : Int) > 0 := by omega
  simp only [h1, if_true, Int.ediv_one]
  split <;> omega
theorem slicePart_ {v : Value} {o : Option Int} {Q : Option Int → Shared → Prop} (p : IsPart v o) (h : Q o s) : wpAny (model prog w) A (Builtin.Slice.slicePartIndex v) Q E s := by
  cases p with
  | none => exact slicePart_none h
  | int i t => exact slicePart_int h
theorem sliceApplied_gen {sl : Addr} {vl vu : Value} {lo hi : Option Int} {n : Nat} {Q : Int × Int × Nat → Shared → Prop} (hs : s.heap.IsSliceOf sl vl vu .none) (pl : IsPart vl lo) (pu : IsPart vu hi)
    (h : Q (((sIx n 0 lo : Nat) : Int), 1, sIx n n hi - sIx n 0 lo) s) : wpAny (model prog w) A (Builtin.Slice.sliceApplied (.ref sl) (pure (n : Int))) Q E s := by
  obtain ⟨os, hos, hcs, hds⟩ := id hs
  unfold Builtin.Slice.sliceApplied Builtin.Slice.sliceFields
  refine wpAny_bind (wpAny_bind (wpAny_field hos hds (x := vl) rfl (wpAny_bind (wpAny_field hos hds (x := vu) rfl (wpAny_bind (wpAny_field hos hds (x := .none) rfl (wpAny_pure ?_)))))))
  refine wpAny_bind (slicePart_none ?_)
  show wpAny _ _ (if ((1 : Int) == 0) = true then _ else _) _ _ s
  rw [if_neg (by decide)]
  refine wpAny_bind (slicePart_ pl (wpAny_bind (slicePart_ pu (wpAny_bind (wpAny_pure ?_)))))
  show wpAny _ _ (match Builtin.Slice.sliceAdjust lo hi 1 (n : Int) with | (lo, hi) => pure (lo, (1 : Int), Builtin.Slice.slicePlaces lo hi 1)) _ _ s
  rw [adjust_gen lo hi n]
  show wpAny _ _ (pure (((sIx n 0 lo : Nat) : Int), (1 : Int), Builtin.Slice.slicePlaces ((sIx n 0 lo : Nat) : Int) ((sIx n n hi : Nat) : Int) 1)) _ _ s
  rw [places_gen]
  exact wpAny_pure h
theorem pick_gen (xs : Array Value) (i k : Nat) : ((List.range k).filterMap fun (m : Nat) => xs[((i : Int) + (m : Int) * 1).toNat]?).toArray = ((xs.toList.drop i).take k).toArray := by
  have e : (fun (m : Nat) => xs[((i : Int) + (m : Int) * 1).toNat]?) = fun m => xs[i + m]? := by
    funext m
    have : ((i : Int) + (m : Int) * 1).toNat = i + m := by omega
    rw [this]
  rw [e]
  have := pick_run xs i k
  rw [List.filterMap_map] at this
  have e2 : ((fun x => xs[x]?) ∘ fun x => i + x) = fun m => xs[i + m]? := rfl
  rw [e2] at this
  rw [this]
theorem getItem_tuple_cut {t sl : Addr} {items : Array Value} {vl vu : Value} {lo hi : Option Int} {Q : Value → Shared → Prop} (ht : IsTup s.heap t items) (hs : s.heap.IsSliceOf sl vl vu .none) (pl : IsPart vl lo) (pu : IsPart vu hi)
    (hw : ¬ (sIx items.size 0 lo = 0 ∧ sIx items.size items.size hi = items.size))
    (h : Q (.ref s.heap.objs.size) { s with heap := s.heap.push { cls := .type "tuple", data := .seq ((items.toList.drop (sIx items.size 0 lo)).take (sIx items.size items.size hi - sIx items.size 0 lo)).toArray } })
    (hsz : items.size ≤ sizeLine) : wpAny (model prog w) A (getItem (.ref t) (.ref sl)) Q E s := by
  have htake : sizeOk (.seq ((items.toList.drop (sIx items.size 0 lo)).take (sIx items.size items.size hi - sIx items.size 0 lo)).toArray) := by
    show ((items.toList.drop (sIx items.size 0 lo)).take (sIx items.size items.size hi - sIx items.size 0 lo)).toArray.size ≤ sizeLine
    rw [List.size_toArray, List.length_take, List.length_drop, Array.length_toList]
    omega
  have hj : sIx items.size items.size hi ≤ items.size := sIx_le _ _ (Nat.le_refl _) hi
  obtain ⟨os, hos, hcs, hds⟩ := id hs
  have hTs : s.TypeIs (.ref sl) "slice" := ⟨os, hos, hcs⟩
  unfold getItem
  try with_reducible refine wpAny_holding ?_
  first | refine wpAny_bind (wpAny_pure ?_) | skip
  refine wpAny_bind (wpAny_sequenceKey ht.typeIs (by decide) ?_)
  refine wpAny_bind (wpAny_callSpecial?_slot (name := Str.ofString "__getitem__") ht.typeIs PyProof.Rows.slot_tuple_getitem
    (wpAny_call_entry PyProof.Rows.slot_tuple_getitem ht.typeIs entry_tuple_getitem ?_ (args_tuple_getitem _ _)))
  show wpAny _ _ (Builtin.Tuple.tupleItemsOf (.ref t) >>= _) _ _ s
  refine wpAny_bind (tupleItemsOf_ ht ?_)
  refine wpAny_bind (wpAny_typeOf hTs ?_)
  rw [if_pos (by decide)]
  refine wpAny_bind (sliceApplied_gen hs pl pu ?_)
  have hno : ¬ ((((sIx items.size 0 lo : Nat) : Int) == 0 && (1 : Int) == 1 && (sIx items.size items.size hi - sIx items.size 0 lo) == items.size) = true) := by
    intro q
    rw [Bool.and_eq_true, Bool.and_eq_true] at q
    have q1 : ((sIx items.size 0 lo : Nat) : Int) = 0 := eq_of_beq q.1.1
    have q2 : sIx items.size items.size hi - sIx items.size 0 lo = items.size := eq_of_beq q.2
    exact hw ⟨by omega, by omega⟩
  show wpAny _ _ (if (((sIx items.size 0 lo : Nat) : Int) == 0 && (1 : Int) == 1 && (sIx items.size items.size hi - sIx items.size 0 lo) == items.size) = true then _ else _) _ _ s
  rw [if_neg hno, pick_gen]
  first
    | exact wpAny_bind (m := Builtin.Tuple.tupleExact _) (wpAny_newObj_type (wpAny_pure ⟨_, rfl, wpAny_pure h⟩) htake)
    | exact wpAny_bind (m := Builtin.Tuple.tupleExact _) (wpAny_newObj_type (wpAny_bind (wpAny_pure (wpAny_pure ⟨_, rfl, wpAny_pure h⟩))) htake)
    | exact wpAny_bind (wpAny_bind (m := Builtin.Tuple.tupleExact _) (wpAny_newObj_type (wpAny_pure (wpAny_pure ⟨_, rfl, wpAny_pure h⟩)) htake))
    | exact wpAny_bind (wpAny_bind (m := Builtin.Tuple.tupleExact _) (wpAny_newObj_type (wpAny_pure ⟨_, rfl, wpAny_pure h⟩) htake))
end
end HT
namespace L2
open PySem PySem.Spec PyProof.Rows
noncomputable abbrev TO := St → Hp → (Option Int → Hp → Prop) → Prop
noncomputable def PO (X : Cx) (e : Option Expr) (t : TO) : Prop :=
  ∀ (pins : List (Addr × Obj)) (s : Shared) (σ : St) (H : Hp) (Q : Option Int → Hp → Prop), Inv X pins σ H s → t σ H Q →
    wpAny (model X.prog X.w) X.A (evalPart e X.env) (fun u s' => ∃ o H', Inv X pins σ H' s' ∧ IsPart u o ∧ Q o H') X.xe s
noncomputable def tNoPart : TO := fun _ H Q => Q none H
noncomputable def tPart (t : TE) : TO := fun σ H Q => t σ H fun x H1 => ∃ i, x = .int i ∧ Q (some i) H1
theorem intsAre_of {ns : List Int} : ∀ {us : List Value}, Vals (ns.map V.int) us → IntsAre us ns := by
  induction ns with
  | nil => intro us r; rw [List.map_nil] at r; cases r; exact .nil
  | cons n ns ih =>
    intro us r
    rw [List.map_cons] at r
    cases r with
    | cons r1 r2 =>
      obtain ⟨t, e⟩ := r1
      subst e
      exact .cons n t (ih r2)
section
variable {X : Cx} {e : Expr} {te : TE} {lo hi : Option Expr} {tl th : TO} {pos p2 : Pos}
theorem po_none : PO X none tNoPart := by
  intro pins s σ H Q I h
  rw [evalPart_none]
  exact wpAny_pure ⟨none, H, I, .none, h⟩
theorem po_some (h : PE X e te) : PO X (some e) (tPart te) := by
  intro pins s σ H Q I hw
  rw [evalPart_some]
  refine thn (h pins s σ H _ I hw) fun u s1 ⟨x, H1, I1, r1, q1⟩ => ?_
  obtain ⟨i, rfl, q⟩ := q1
  obtain ⟨t, rfl⟩ := r1
  exact ⟨some i, H1, I1, .int i t, q⟩
noncomputable def SlR (X : Cx) (r : V → Option Int → Option Int → Hp → VK → Prop) : Prop :=
  ∀ (pins : List (Addr × Obj)) (s : Shared) (σ : St) (H : Hp) (x : V) (v vl vu : Value) (lo hi : Option Int) (sl : Addr) (Q : VK), Inv X pins σ H s → RelV x v → s.heap.IsSliceOf sl vl vu .none → IsPart vl lo → IsPart vu hi → r x lo hi H Q →
    ∃ T id, typeLookup (.type T) "__getitem__" = pure (some (.builtin id)) ∧ s.TypeIs v T ∧ wpAny (model X.prog X.w) X.A (getItem v (.ref sl)) (EP X pins σ Q) X.xe s
noncomputable def tSl (r : V → Option Int → Option Int → Hp → VK → Prop) (te : TE) (tl th : TO) : TE := fun σ H Q => te σ H fun x H1 => tl σ H1 fun l H2 => th σ H2 fun u H3 => r x l u H3 Q
theorem pe_slice {r : V → Option Int → Option Int → Hp → VK → Prop} (hr : SlR X r) (he : PE X e te) (hl : PO X lo tl) (hu : PO X hi th) : PE X (.Subscript e (.Slice lo hi none p2) pos) (tSl r te tl th) := by
  intro pins s σ H Q I h
  refine Subscript_ (thn (he pins s σ H _ I h) fun v s1 ⟨x, H1, I1, r1, q1⟩ => ?_)
  refine wpAny_Slice (thn (hl pins s1 σ H1 _ I1 q1) fun vl s2 ⟨l, H2, I2, pl, q2⟩ => thn (hu pins s2 σ H2 _ I2 q2) fun vu s3 ⟨u, H3, I3, pu, q3⟩ => ?_)
  rw [evalPart_none]
  refine wpAny_pure ?_
  have I4 : Inv X pins σ H3 { s3 with heap := s3.heap.push { cls := .type "slice", data := .fields #[vl, vu, .none] } } := I3.kept (t' := s3.toks) fun b ob q => Heap.get?_push_of_some _ q
  obtain ⟨T, id, hT, ht, hg⟩ := hr pins { s3 with heap := s3.heap.push { cls := .type "slice", data := .fields #[vl, vu, .none] } } σ H3 x v vl vu l u s3.heap.objs.size Q I4 r1 (Heap.IsSliceOf.new ..) pl pu q3
  show wpAny (model X.prog X.w) X.A (subscriptTail e (.Slice lo hi none p2) v (.ref s3.heap.objs.size)) (EP X pins σ Q) X.xe { s3 with heap := s3.heap.push { cls := .type "slice", data := .fields #[vl, vu, .none] } }
  exact tail_any (ops := [.ref s3.heap.objs.size, v]) ht hT hg (by with_unfolding_all rfl)
noncomputable def cutV (xs : List V) (lo hi : Option Int) : List V := (xs.drop (HT.sIx xs.length 0 lo)).take (HT.sIx xs.length xs.length hi - HT.sIx xs.length 0 lo)
theorem cutV_length (xs : List V) (lo hi : Option Int) : (cutV xs lo hi).length ≤ xs.length := by
  unfold cutV
  rw [List.length_take, List.length_drop]
  omega
noncomputable def rSlT (K : PySem.W.Frag) : V → Option Int → Option Int → Hp → VK → Prop := fun x lo hi H Q => ∃ a xs, x = .ref a ∧ SqT K H a xs ∧
  ¬ (HT.sIx xs.length 0 lo = 0 ∧ HT.sIx xs.length xs.length hi = xs.length) ∧ ∀ p, H p = none → Q (.ref p) (upd H p (.tup (cutV xs lo hi)))
theorem sl_tup : SlR X (rSlT X.K) := by
  intro pins s σ H x v vl vu lo hi sl Q I rx hs pl pu h
  obtain ⟨a, xs, rfl, hx, hw, q⟩ := h
  cases rx
  obtain ⟨its, r, ht, hz⟩ := I.tuple hx
  have hlen : its.toArray.size = xs.length := by rw [List.size_toArray]; exact r.length.symm
  refine ⟨"tuple", _, PyProof.Rows.slot_tuple_getitem.lookup, ht.typeIs, ?_⟩
  refine HT.getItem_tuple_cut ht hs pl pu (by rw [hlen]; exact hw) ?_ (by rw [hlen]; exact hz)
  rw [hlen]
  refine ⟨.ref s.heap.objs.size, _, I.laid (t' := s.toks) (o := .tup (cutV xs lo hi)) (fun b ob q => Heap.get?_push_of_some _ q) (Nat.le_refl _) ?_, rfl, q _ (I.hok.fresh (Nat.le_refl _))⟩
  exact ⟨Nat.le_trans (cutV_length xs lo hi) hz, _, (r.drop (HT.sIx xs.length 0 lo)).take (HT.sIx xs.length xs.length hi - HT.sIx xs.length 0 lo), IsTup.new _ _⟩
end
end L2
namespace L2
open PySem PySem.Spec PyProof.Rows
noncomputable def ixN (n : Nat) (i : Int) : Option Nat := if 0 ≤ i then (if i < n then some i.toNat else none) else if -(n : Int) ≤ i then some (i + n).toNat else none
noncomputable def atI {α : Type} (xs : List α) (i : Int) : Option α := (ixN xs.length i).bind fun j => xs[j]?
theorem ixN_seq {n : Nat} {i : Int} {j : Nat} (h : ixN n i = some j) : seqIndex? i n = some j ∧ j < n ∧ -(n : Int) ≤ i ∧ i < n := by
  unfold ixN at h
  by_cases h0 : 0 ≤ i
  · rw [if_pos h0] at h
    by_cases h1 : i < n
    · rw [if_pos h1] at h
      have e : i.toNat = j := Option.some.inj h
      exact ⟨by rw [seqIndex_of h0 h1, e], by omega, by omega, h1⟩
    · rw [if_neg h1] at h; cases h
  · rw [if_neg h0] at h
    by_cases h1 : -(n : Int) ≤ i
    · rw [if_pos h1] at h
      have e : (i + n).toNat = j := Option.some.inj h
      exact ⟨by rw [seqIndex_neg (by omega) h1, e], by omega, h1, by omega⟩
    · rw [if_neg h1] at h; cases h
theorem atI_get {α : Type} {xs : List α} {i : Int} {v : α} (h : atI xs i = some v) : ∃ j, seqIndex? i xs.length = some j ∧ xs[j]? = some v ∧ j < xs.length ∧ -(xs.length : Int) ≤ i ∧ i < xs.length := by
  unfold atI at h
  cases e : ixN xs.length i with
  | none => rw [e] at h; cases h
  | some j =>
    rw [e] at h
    obtain ⟨h1, h2, h3, h4⟩ := ixN_seq e
    exact ⟨j, h1, h, h2, h3, h4⟩
theorem atI_nat {α : Type} {xs : List α} {j : Nat} {v : α} (h : xs[j]? = some v) : atI xs (j : Int) = some v := by
  have hj : j < xs.length := (List.getElem?_eq_some_iff.mp h).1
  have e : ixN xs.length (j : Int) = some j := by
    unfold ixN
    rw [if_pos (by omega), if_pos (by omega)]; simp
  unfold atI; rw [e]; exact h
noncomputable def PlainIx (b : Expr) : Prop := ∀ o i, subscripted b false o i = operate [o, i] (getItem o i)
noncomputable def IxR (X : Cx) (r : R2) : Prop :=
  ∀ (value slice : Expr) (pins : List (Addr × Obj)) (s : Shared) (σ : St) (H : Hp) (x y : V) (v u : Value) (Q : VK), Inv X pins σ H s → RelV x v → RelV y u → r x y H Q →
    subscripted slice false v u = operate [v, u] (getItem v u) → wpAny (model X.prog X.w) X.A (subscriptTail value slice v u) (EP X pins σ Q) X.xe s
noncomputable def MtR (X : Cx) (id : String) (r : V → List V → Hp → VK → Prop) : Prop :=
  ∀ (pins : List (Addr × Obj)) (s : Shared) (σ : St) (H : Hp) (x : V) (xs : List V) (v : Value) (us : List Value) (Q : VK), Inv X pins σ H s → RelV x v → Vals xs us → r x xs H Q →
    wpAny (model X.prog X.w) X.A (call (.builtin id) (v :: us)) (EP X pins σ Q) X.xe s
section
variable {X : Cx} {a b : Expr} {ta tb : TE} {pos : Pos}
theorem pe_ix {r : R2} (hr : IxR X r) (ha : PE X a ta) (hb : PE X b tb) (hs : PlainIx b) : PE X (.Subscript a b pos) (tOp r ta tb) := by
  intro pins s σ H Q I h
  exact Subscript_ (binT ha hb I h fun v u s2 x y H2 I2 rx ry q => hr a b pins s2 σ H2 x y v u Q I2 rx ry q (hs _ _))
noncomputable def rIxL (K : PySem.W.Frag) : R2 := fun x y H Q => ∃ p xs i v, x = .ref p ∧ y = .int i ∧ SqL K H p xs ∧ atI xs i = some v ∧ Q v H
noncomputable def rIxT (K : PySem.W.Frag) : R2 := fun x y H Q => ∃ p xs i v, x = .ref p ∧ y = .int i ∧ SqT K H p xs ∧ atI xs i = some v ∧ Q v H
theorem ix_list : IxR X (rIxL X.K) := by
  intro value slice pins s σ H x y v u Q I rx ry h hs
  obtain ⟨p, xs, i, z, rfl, rfl, hq, he, q⟩ := h
  cases rx
  obtain ⟨t, rfl⟩ := ry
  obtain ⟨its, r, pl, hz⟩ := I.list hq
  obtain ⟨j, h1, h2, h3, h4, h5⟩ := atI_get he
  obtain ⟨w, ew, rw'⟩ := r.get h2
  have hl := r.length
  have hn := line63
  have fin : EP X pins σ Q w s := ⟨z, H, I, rw', q⟩
  by_cases h0 : 0 ≤ i
  · have hj : i.toNat = j := by
      rw [seqIndex_of h0 h5] at h1
      exact Option.some.inj h1
    exact item_listR pl.isList h0 (by omega) (by rw [hj]; simpa using ew) fin hs
  · have hj : (i + (its.toArray.size : Int)).toNat = j := by
      rw [seqIndex_neg (by omega) h4] at h1
      rw [List.size_toArray, ← hl]
      exact Option.some.inj h1
    exact subscriptTail_builtinR (x := w) pl.isList.typeIs slot_list_getitem.lookup
      (wpAny_getItem_list_neg (Q := fun r s' => r = w ∧ EP X pins σ Q r s') pl.isList (by omega) (by rw [List.size_toArray] <;> omega) (by omega) (by rw [hj]; simpa using ew) ⟨rfl, fin⟩) hs
theorem ix_tup : IxR X (rIxT X.K) := by
  intro value slice pins s σ H x y v u Q I rx ry h hs
  obtain ⟨p, xs, i, z, rfl, rfl, hq, he, q⟩ := h
  cases rx
  obtain ⟨t, rfl⟩ := ry
  obtain ⟨its, r, pl, hz⟩ := I.tuple hq
  obtain ⟨j, h1, h2, h3, h4, h5⟩ := atI_get he
  obtain ⟨w, ew, rw'⟩ := r.get h2
  have hl := r.length
  have hn := line63
  have fin : EP X pins σ Q w s := ⟨z, H, I, rw', q⟩
  exact subscriptTail_builtinR (x := w) pl.typeIs slot_tuple_getitem.lookup
    (getItem_tuple (j := j) (Q := fun r s' => r = w ∧ EP X pins σ Q r s') pl (by omega) (by omega) (by rw [List.size_toArray, ← hl]; exact h1) (by simpa using ew) ⟨rfl, fin⟩) hs
theorem Inv.lst {pins : List (Addr × Obj)} {σ : St} {H : Hp} {s : Shared} {p : Addr} {xs : List V} (I : Inv X pins σ H s) (h : H p = some (.lst xs)) :
    ∃ (its : List Value) (n : Nat), Vals xs its ∧ s.heap.get? p = some { cls := .type "list", data := .seq its.toArray n } ∧ xs.length ≤ sizeLine := by
  obtain ⟨z, its, n, r, e⟩ := I.hok p _ h
  exact ⟨its, n, r, e, z⟩
theorem slice_bounds (lo hi : Option Int) (n : Nat) : (sliceBounds lo hi none n).1 = ((HT.sIx n 0 lo : Nat) : Int) ∧ (sliceBounds lo hi none n).2.1 = ((HT.sIx n n hi : Nat) : Int) ∧ (sliceBounds lo hi none n).2.2 = 1 := by
  refine ⟨?_, ?_, rfl⟩
  · cases lo with
    | none => simp [sliceBounds, HT.sIx]
    | some i =>
      simp only [sliceBounds, HT.sIx, Option.getD_none, show (1 : Int) > 0 by decide, if_true]
      by_cases h : i < 0
      · simp only [h, if_true] <;> omega
      · simp only [h, if_false] <;> omega
  · cases hi with
    | none => simp [sliceBounds, HT.sIx]
    | some i =>
      simp only [sliceBounds, HT.sIx, Option.getD_none, show (1 : Int) > 0 by decide, if_true]
      by_cases h : i < 0
      · simp only [h, if_true] <;> omega
      · simp only [h, if_false] <;> omega
theorem slicePick_cut (its : List Value) (lo hi : Option Int) : slicePick its.toArray lo hi none = ((its.drop (HT.sIx its.length 0 lo)).take (HT.sIx its.length its.length hi - HT.sIx its.length 0 lo)).toArray := by
  obtain ⟨h1, h2, h3⟩ := slice_bounds lo hi its.toArray.size
  unfold slicePick
  rw [h1, h2, h3]
  simp only [sliceRange_one, pick_run, List.size_toArray] <;> rfl
noncomputable def rSlL (K : PySem.W.Frag) : V → Option Int → Option Int → Hp → VK → Prop := fun x lo hi H Q => ∃ a xs, x = .ref a ∧ SqL K H a xs ∧ ∀ p, H p = none → Q (.ref p) (upd H p (.lst (cutV xs lo hi)))
theorem sl_list : SlR X (rSlL X.K) := by
  intro pins s σ H x v vl vu lo hi sl Q I rx hs pl pu h
  obtain ⟨a, xs, rfl, hx, q⟩ := h
  cases rx
  obtain ⟨its, r, ht, hz⟩ := I.list hx
  have hlen := r.length
  refine ⟨"list", _, slot_list_getitem.lookup, ht.isList.typeIs, ?_⟩
  refine wpAny_getItem_list_slice ht.isList hs pl pu .none (by simp) ?_ (by rw [List.size_toArray] <;> omega)
  rw [slicePick_cut, ← hlen]
  refine ⟨.ref s.heap.objs.size, _, I.laid (t' := s.toks) (o := .lst (cutV xs lo hi)) (fun b ob q => Heap.get?_push_of_some _ q) (Nat.le_refl _) ?_, rfl, q _ (I.hok.fresh (Nat.le_refl _))⟩
  exact ⟨Nat.le_trans (cutV_length xs lo hi) hz, _, 0, (r.drop (HT.sIx xs.length 0 lo)).take (HT.sIx xs.length xs.length hi - HT.sIx xs.length 0 lo), Heap.get?_push_size _ rfl⟩
theorem call_len_seq : CallR X (.builtin "len") (fun xs H Q => ∃ p ys, xs = [.ref p] ∧ (SqL X.K H p ys ∨ SqT X.K H p ys) ∧ Q (.int ys.length) H) := by
  intro pins s σ H xs us Q I r h
  obtain ⟨p, ys, rfl, hq, q⟩ := h
  obtain ⟨u, rfl, rx⟩ := vals1 r
  cases rx
  have hn := line63
  rcases hq with hq | hq
  · obtain ⟨its, r', pl, hz⟩ := I.list hq
    have hlen := r'.length
    exact Calls.call_len_list pl.isList (by simp only [List.size_toArray] <;> omega) ⟨.int ys.length, H, I.tok _, ⟨s.toks + 1, by rw [List.size_toArray, hlen]⟩, q⟩
  · obtain ⟨its, r', pl, hz⟩ := I.tuple hq
    have hlen := r'.length
    exact len_tuple pl (by simp only [List.size_toArray] <;> omega) ⟨.int ys.length, H, I.tok _, ⟨s.toks + 1, by rw [List.size_toArray, hlen]⟩, q⟩
theorem call_tuple_of : CallR X (.type "tuple") (fun xs H Q => ∃ p ys, xs = [.ref p] ∧ ((SqL X.K H p ys ∧ ∀ l, H l = none → Q (.ref l) (upd H l (.tup ys))) ∨ (SqT X.K H p ys ∧ Q (.ref p) H))) := by
  intro pins s σ H xs us Q I r h
  obtain ⟨p, ys, rfl, h⟩ := h
  obtain ⟨u, rfl, rx⟩ := vals1 r
  cases rx
  rcases h with ⟨hq, q⟩ | ⟨hq, q⟩
  · obtain ⟨its, r', pl, hz⟩ := I.list hq
    have hlen := r'.length
    refine call_tuple_list pl.isList (fun h' kp => ?_) (by simp only [List.size_toArray] <;> omega)
    have I1 : Inv X pins σ H { s with heap := h' } := I.kept (t' := s.toks) kp
    have I2 : Inv X pins σ (upd H h'.objs.size (.tup ys)) { s with heap := h'.push { cls := .type "tuple", data := .seq its.toArray } } :=
      I1.laid (t' := s.toks) (fun b o e => Heap.get?_push_of_some _ e) (Nat.le_refl _) (show ObjOk X.prog X.w _ _ _ (.tup ys) from ⟨hz, its, r', IsTup.new _ _⟩)
    exact ⟨.ref h'.objs.size, _, I2, rfl, q _ (I1.hok.fresh (Nat.le_refl _))⟩
  · obtain ⟨its, r', pl, hz⟩ := I.tuple hq
    exact call_tuple_same pl ⟨.ref p, H, I, rfl, q⟩
noncomputable def tyV (K : PySem.W.Frag) (T : String) (x : V) (H : Hp) : Prop := match x with
  | .str _ => T = "str"
  | .int _ => T = "int"
  | .ref p => (T = "list" ∧ ∃ xs, SqL K H p xs) ∨ (T = "tuple" ∧ ∃ o, K.lookup p = some o ∧ o.cls = .type "tuple" ∧ o.dict = none) ∨
      (T = "dict" ∧ ((∃ kvs, H p = some (.dK kvs)) ∨ ∃ kvs, H p = some (.dT kvs))) ∨ (T = "set" ∧ ∃ S n, H p = some (.set S n))
  | _ => False
theorem tyV_is {pins : List (Addr × Obj)} {σ : St} {H : Hp} {s : Shared} {T : String} {x : V} {v : Value} (I : Inv X pins σ H s) (r : RelV x v) (ty : tyV X.K T x H) :
    s.TypeIs v T ∧ ∀ a, v = .ref a → ∃ ob, s.heap.get? a = some ob ∧ ob.dict = none := by
  cases x with
  | str z =>
    obtain ⟨t, rfl⟩ := r
    cases (show T = "str" from ty)
    exact ⟨typeIs_str s z t, fun _ e => nomatch e⟩
  | int i =>
    obtain ⟨t, rfl⟩ := r
    cases (show T = "int" from ty)
    exact ⟨typeIs_int s i t, fun _ e => nomatch e⟩
  | ref p =>
    cases r
    rcases ty with ⟨rfl, xs, hq⟩ | ⟨rfl, o, hk, hc, hd⟩ | ⟨rfl, hk⟩ | ⟨rfl, S, n, hk⟩
    · obtain ⟨its, _, pl, _⟩ := I.list hq
      refine ⟨pl.isList.typeIs, fun a e => ?_⟩
      cases e
      obtain ⟨o, n, e, c, hd, _⟩ := pl
      exact ⟨o, e, hd⟩
    · refine ⟨⟨o, I.kIn p o hk, hc⟩, fun a e => ?_⟩
      cases e
      exact ⟨o, I.kIn _ o hk, hd⟩
    · have z : ∃ o, s.heap.get? p = some o ∧ o.ExactDict := by
        rcases hk with ⟨kvs, hk⟩ | ⟨kvs, hk⟩
        · obtain ⟨_, _, _, _, o, _, _, e, ex, _⟩ := I.hok p _ hk
          exact ⟨o, e, ex⟩
        · obtain ⟨_, _, _, _, o, _, _, e, ex, _⟩ := I.hok p _ hk
          exact ⟨o, e, ex⟩
      obtain ⟨o, e, ex⟩ := z
      refine ⟨⟨o, e, ex.1⟩, fun a e2 => ?_⟩
      cases e2
      exact ⟨o, e, ex.2.1⟩
    · obtain ⟨o, _, _, _, e, ex, _⟩ := I.hok p _ hk
      refine ⟨⟨o, e, ex.1⟩, fun a e2 => ?_⟩
      cases e2
      exact ⟨o, e, ex.2.1⟩
  | _ => exact False.elim ty
noncomputable def tBM (K : PySem.W.Frag) (T : String) (r : V → List V → Hp → VK → Prop) (to : TE) (t : TA) : TE := fun σ H Q => to σ H fun x H1 => tyV K T x H1 ∧ t σ H1 fun xs H2 => r x xs H2 Q
variable {o e : Expr} {es : List Expr} {to : TE} {t : TA} {name : Str} {apos cpos : Pos} {T id : String} {r : V → List V → Hp → VK → Prop}
theorem pe_bm (pa : PlainAttrs T) (slot : Slot T name id) (hty : typeOf (.builtin id) = pure (.type "method_descriptor")) (hm : MtR X id r) (ho : PE X o to) (ha : PA X (e :: es) t)
    (hbase : attributeBase o name X.env (eval o X.env) = eval o X.env := by rfl)
    (hfew : ((backTo cpos (starEach (e :: es) X.env)).all (fun x => !x.1) && (backToKw cpos (keywordEach [] X.env)).all (fun x => x.1.isSome)
      && decide ((e :: es).length + ([] : List Keyword).length + (if ([] : List Keyword).isEmpty then 0 else 1) < 30)) = true := by rfl)
    (hline : (apos.endLine == cpos.line) = true := by rfl) (hs : starEach (e :: es) X.env = (false, eval e X.env) :: starEach es X.env := by rfl) (hplain : (backTo cpos (starEach es X.env)).any (·.1) = false := by rfl) :
    PE X (.Call (.Attribute o name apos) (e :: es) [] cpos) (tBM X.K T r to t) := by
  intro pins s σ H Q I h
  refine wpAny_Call_method_late hbase hfew hline rfl (thn (ho pins s σ H _ I h) fun v s1 ⟨x, H1, I1, r1, ty, q1⟩ => ?_)
  obtain ⟨h1, h2⟩ := tyV_is I1 r1 ty
  refine ⟨T, id, pa, slot, hty, h1, h2, ?_⟩
  have hA := ha cpos pins s1 σ H1 _ I1 q1
  rw [hs] at hA ⊢
  refine Calls.callWith_builtin (by show (false || (backTo cpos (starEach es X.env)).any (·.1)) = false; rw [hplain] <;> rfl) (Calls.evalArgs_plain ?_)
  exact thn hA fun us s2 ⟨vs, H2, I2, r2, q2⟩ => hm pins s2 σ H2 x vs v us Q I2 r1 r2 q2
end
end L2
namespace L2
open PySem PySem.Spec PyProof.Rows
noncomputable def MtM (X : Cx) (id : String) (r : V → List V → Hp → VK → Prop) : Prop :=
  ∀ (pins : List (Addr × Obj)) (s : Shared) (σ : St) (H : Hp) (x : V) (xs : List V) (v : Value) (us : List Value) (Q : VK), Inv X pins σ H s → RelV x v → Vals xs us → r x xs H Q →
    wpAny (model X.prog X.w) X.A (call (.builtin id) (v :: us)) (EP X pins σ Q) X.xe s
theorem Vals.one : ∀ {x : V} {us : List Value}, Vals [x] us → ∃ u, us = [u] ∧ RelV x u
  | _, _, .cons r .nil => ⟨_, rfl, r⟩
theorem Vals.two : ∀ {x y : V} {us : List Value}, Vals [x, y] us → ∃ u v, us = [u, v] ∧ RelV x u ∧ RelV y v
  | _, _, _, .cons r (.cons q .nil) => ⟨_, _, rfl, r, q⟩
theorem Vals.zero : ∀ {us : List Value}, Vals [] us → us = []
  | _, .nil => rfl
theorem Vals.reverse {xs : List V} {us : List Value} (h : Vals xs us) : Vals xs.reverse us.reverse := by
  induction h with
  | nil => exact .nil
  | cons r t ih => rw [List.reverse_cons, List.reverse_cons]; exact Vals.append ih (.cons r .nil)
section
variable {X : Cx} {pins : List (Addr × Obj)} {σ : St} {H : Hp} {s : Shared} {l b : Addr} {xs ys zs : List V}
theorem Inv.lset {its its' : List Value} {n : Nat} {f : Array Value → Array Value} {t' : Nat} (I : Inv X pins σ H s) (hH : H l = some (.lst xs))
    (e : s.heap.get? l = some { cls := .type "list", data := .seq its.toArray n }) (hf : f its.toArray = its'.toArray) (hv : Vals ys its') (hz : ys.length ≤ sizeLine) :
    Inv X pins σ (upd H l (.lst ys)) { s with heap := s.heap.update l (Obj.mapSeq f), toks := t' } := by
  have q := PySem.IsL.update e f
  rw [hf] at q
  refine I.write (x := l) (e := l) (by rw [hH]; exact trivial) (.inl rfl) (fun b' u hb hu => (Heap.get?_update_other s.heap (Obj.mapSeq f) (Ne.symm hb)).trans hu) ⟨_, q⟩ ?_
  exact ⟨hz, its', _, hv, q⟩
theorem Inv.lnew {its : List Value} {t' : Nat} (I : Inv X pins σ H s) (hv : Vals ys its) (hz : ys.length ≤ sizeLine) :
    Inv X pins σ (upd H s.heap.objs.size (.lst ys)) { s with heap := s.heap.push { cls := .type "list", data := .seq its.toArray }, toks := t' } :=
  I.laid (fun _ _ q => Heap.get?_push_of_some _ q) (Nat.le_refl _) ⟨hz, its, 0, hv, Heap.get?_push_size _ rfl⟩
theorem Inv.fresh (I : Inv X pins σ H s) : H s.heap.objs.size = none := I.hok.fresh (Nat.le_refl _)
theorem Inv.lstM (I : Inv X pins σ H s) (hH : H l = some (.lst xs)) : xs.length ≤ sizeLine ∧ ∃ (its : List Value) (n : Nat), Vals xs its ∧ xs.length = its.length ∧ s.heap.get? l = some { cls := .type "list", data := .seq its.toArray n } := by
  obtain ⟨z, its, n, r, e⟩ := I.hok l _ hH
  exact ⟨z, its, n, r, r.length, e⟩
theorem notLongL {n : Nat} (h : n ≤ sizeLine) : Builtin.List.listTooLong n = false := by
  unfold Builtin.List.listTooLong
  exact decide_eq_false (by omega)
end
section
variable {X : Cx}
noncomputable def rAppend : V → List V → Hp → VK → Prop := fun x vs H Q => ∃ l xs y, x = .ref l ∧ vs = [y] ∧ H l = some (.lst xs) ∧ xs.length < sizeLine ∧ Q .non (upd H l (.lst (xs ++ [y])))
theorem mt_append : MtM X "list.append" rAppend := by
  intro pins s σ H x vs v us Q I rx rv h
  obtain ⟨l, xs, y, rfl, rfl, hH, hz, q⟩ := h
  cases rx
  obtain ⟨u, rfl, ru⟩ := rv.one
  obtain ⟨z, its, n, r, hl, e⟩ := I.lstM hH
  refine call_meets F.slot_list_append ⟨_, e, rfl⟩ F.entry_list_append (F.args_list_append_2 _ _) (PySem.list_append l its.toArray n u (by rw [List.size_toArray]; omega)) ⟨e, ?_⟩
  refine ⟨.non, _, I.lset (its' := its ++ [u]) hH e (by simp) (r.append (.cons ru .nil)) ?_, rfl, q⟩
  rw [List.length_append, List.length_singleton]
  omega
noncomputable def rCat : R2 := fun x y H Q => ∃ l b xs zs, x = .ref l ∧ y = .ref b ∧ H l = some (.lst xs) ∧ H b = some (.lst zs) ∧ xs.length + zs.length ≤ sizeLine ∧ ∀ p, H p = none → Q (.ref p) (upd H p (.lst (xs ++ zs)))
theorem op_cat : OpR X (binaryOp .Add) rCat := by
  intro pins s σ H x y v u Q I rx ry h
  obtain ⟨l, b, xs, zs, rfl, rfl, hH, hB, hz, q⟩ := h
  cases rx
  cases ry
  obtain ⟨z, its, n, r, hl, e⟩ := I.lstM hH
  obtain ⟨z2, its2, n2, r2, hl2, e2⟩ := I.lstM hB
  refine PySem.P.add_list e e2 ?_ (by rw [List.size_toArray, List.size_toArray]; omega)
  have ea : its.toArray ++ its2.toArray = (its ++ its2).toArray := by simp
  rw [ea]
  exact ⟨.ref _, _, I.lnew (t' := s.toks) (r.append r2) (by rw [List.length_append]; omega), rfl, q _ I.fresh⟩
end
section
variable {prog : Program} {w : World} {A : Around} {E : Value → Shared → Prop} {s : Shared}
end
section
variable {X : Cx}
end
end L2
namespace Att
open PySem PySem.W PySem.Calls PyProof.Rows
theorem ints_of_wellAll {P : Params} {h : Heap} : ∀ (ns : List Int) (vs : List Value), WellAll P h vs (ns.map WData.int) → IntsAre vs ns := by
  intro ns
  induction ns with
  | nil =>
    intro vs w
    rw [List.map_nil] at w
    cases w
    exact .nil
  | cons n ns ih =>
    intro vs w
    rw [List.map_cons] at w
    cases w with
    | cons a b =>
      cases a
      exact .cons _ _ (ih _ b)
theorem script_of {l : OpenLaw} {n : Nat} (hn : l.most = some n) {P : Params} {h : Heap} {args : List WData} {vals : List Value}
    (hpre : l.row.toRowW.claim.pre args = true) (hwl : WellAll P h vals args) :
    ∃ a vs ns, vals = [Value.ref a] ∧ args = [WData.list (ns.map WData.int)] ∧ h.get? a = some { cls := .type "list", data := .seq vs.toArray } ∧ IntsAre vs ns ∧ ns.length ≤ n := by
  have hsh : WShape.hasAll [] args [.list .int] = true := (pre_splitW hpre).1
  have hc : l.pre.holds [] { args := args } = true := (pre_splitW hpre).2
  obtain ⟨d, r, rfl, h1, h2⟩ := hasAllW_cons hsh
  obtain rfl := hasAllW_nil h2
  obtain ⟨xs, rfl, h3⟩ := hasW_list h1
  obtain ⟨ns, rfl⟩ := items_int h3
  have hlen : ns.length ≤ n := by
    unfold OpenLaw.pre at hc
    have h4 : (WTm.not (.lt (.lit (.int (n : Int))) (.len (.arg 0)))).holds [] { args := [.list (ns.map .int)] } = true := by
      have h4 := (holds_andW hc).1
      rw [hn] at h4
      exact h4
    have h5 := condW_of h4 (w_not (w_lt w_lit (w_len_list (w_arg rfl))))
    rw [List.length_map] at h5
    refine Nat.le_of_not_lt fun q => ?_
    have q' : (n : Int) < ((ns.length : Nat) : Int) := by omega
    first
      | (rw [decide_eq_true q'] at h5; exact absurd h5 (by decide))
      | (simp at h5; omega)
  cases hwl with
  | cons w1 w2 =>
    cases w2
    cases w1 with
    | list ho hall => exact ⟨_, _, ns, rfl, rfl, ho, ints_of_wellAll ns _ hall, hlen⟩
theorem post_true (l : OpenLaw) (args : List WData) : l.row.toRowW.claim.post args (.bool true) args = true :=
  postW_of (r := l.row.toRowW) (X := (true == true))
    (show WShape.has [] (.bool true) .bool = true by first | rfl | decide | simp [WShape.has, WShape.arms, WShape.armsAll])
    (show (WTm.eq .res (.lit (.bool true))).value [] { args := args, res := some (.bool true), after := args } = some (.bool (true == true)) from w_eq_bool (w_res rfl) w_lit) rfl
section
variable {prog : Program} {w : World} {A : Around} {E : Value → Shared → Prop} {s : Shared} {K : Frag}
end
end Att
namespace L2
open PySem PySem.Spec PyProof.Rows
theorem vals_ints : ∀ {vs : List Value} {ns : List Int}, IntsAre vs ns → Vals (ns.map V.int) vs
  | _, _, .nil => .nil
  | _, _, .cons n t h => .cons ⟨t, rfl⟩ (vals_ints h)
noncomputable def Only (H : Hp) : Prop := ∀ b, H b = none ∨ ∃ o xs, H b = some (.frz o (.lst xs))
theorem law_call {P : Program} {w : World} {K : PySem.W.Frag} {mg mb : Str → Option Value} {CX : CXT} {k : Nat} {fa a : Addr} {fd : FuncData} {x : Str} {sp : Sp} {s₁ : Shared} {vs : List Value} {ns : List Int}
    (KX : K.In s₁.heap) (hns : s₁.heap.Ns mainGlobals mg) (hb : s₁.heap.Ns builtinsNs mb) (hbb : ∀ x : Str, x ≠ "__name__" → mb x = bootBuiltins x) (hlim : s₁.heap.NoLimit) (hg : s₁.gens = #[])
    (ha : s₁.heap.get? a = some { cls := .type "list", data := .seq vs.toArray }) (hi : IntsAre vs ns) (hl : ns.length ≤ sizeLine) (hr : Room k callerA)
    (F : ∀ base : Heap, K.In base → base.Ns mainGlobals mg → FnOk P w K mg base CX k fa fd [x] sp) (hbind : ∀ (s : Shared) (u : Value), BindsTo s fd ⟨[u], []⟩ [(x, u)])
    (hsp : ∀ H : Hp, Only H → SqL K H a (ns.map V.int) → sp [.ref a] H (fun v _ => v = .bl true) fun _ _ _ => False)
    (hCX : ∀ H e s', CX [] H s₁ (fun _ _ _ => False) e s' → False) :
    codeAny (model P w) callerA (.call (.ref fa) ⟨[.ref a], []⟩) (fun r s' => r = .ok (.ret (.bool true)) ∧ OldK s₁.heap s'.heap ∧ s'.os = s₁.os ∧ AllBare s'.gens) s₁ := by
  have rv := vals_ints hi
  have lenV := hi.length
  have core : ∀ H : Hp, Only H → SqL K H a (ns.map V.int) → HOk P w H s₁.heap → (∀ b, H b ≠ none → b = a) → (H a ≠ none → K.lookup a = none) →
      codeAny (model P w) callerA (.call (.ref fa) ⟨[.ref a], []⟩) (fun r s' => r = .ok (.ret (.bool true)) ∧ OldK s₁.heap s'.heap ∧ s'.os = s₁.os ∧ AllBare s'.gens) s₁ := by
    intro H hO hS hok hA hK
    have base_of : ∀ {b : Addr} {o : Obj}, s₁.heap.get? b = some o → H b = none → (hidT s₁.heap H).get? b = some o := fun e n => hidT_get e n
    have noA : ∀ {b : Addr} {o : Obj} {es : Array DictEntry} {ep : Nat}, s₁.heap.get? b = some o → o.data = .dict es ep → H b = none := fun {b o es ep} e d => by
      cases q : H b with
      | none => rfl
      | some u =>
        have e' : b = a := hA b (by rw [q]; simp)
        subst e'
        rw [ha] at e; cases e
        have d' : Data.seq vs.toArray _ = Data.dict es ep := d
        cases d'
    have nsK : ∀ {b : Addr} {m : Str → Option Value}, s₁.heap.Ns b m → (hidT s₁.heap H).Ns b m := fun {b m} ⟨o, es, ep, e, d, r⟩ => ⟨o, es, ep, base_of e (noA e d), d, r⟩
    have hKb : K.In (hidT s₁.heap H) := fun b o e => base_of (KX b o e) (by
      cases q : H b with
      | none => rfl
      | some u =>
        have e' : b = a := hA b (by rw [q]; simp)
        subst e'
        rw [hK (by rw [q]; simp)] at e; cases e)
    have hM : Mod K mg (hidT s₁.heap H) := ⟨hKb, nsK hns, ⟨mb, nsK hb, hbb⟩, let ⟨mc, h1, h2⟩ := hlim; ⟨mc, nsK h1, h2⟩⟩
    have e0 : Env0 P w K mg (hidT s₁.heap H) callerA [] s₁ H := ⟨rfl, hM, fun b o e => of_hidT e, Nat.le_of_eq (hidT_size _ _), trivial, fun b hb => absurd (show b ∈ ([] : List Addr) from hb) (by simp), hok, .of_eq hg⟩
    refine codeAny_mono ((F _ hKb (nsK hns)).run callerA [] s₁ H ⟨[.ref a], []⟩ [.ref a] [.ref a] _ _ hr e0 (hbind s₁ (.ref a)) (.cons rfl .nil) (hsp H hO hS)) fun r s' h => ?_
    cases r with
    | error e => exact (hCX H e s' h).elim
    | ok fl =>
      cases fl with
      | next => exact False.elim h
      | brk => exact False.elim h
      | cont => exact False.elim h
      | ret u =>
        obtain ⟨v, H', os, bare, un, hok', r', q⟩ := h
        have q' : v = .bl true := q
        subst q'
        obtain rfl : u = Value.bool true := r'
        refine ⟨rfl, OldK.of_keep fun b o e => ?_, os, bare⟩
        cases q : H b with
        | none => exact un.keep b o e q (by intro z; exact absurd (show b ∈ ([] : List Addr) from z) (by simp)) (by simp)
        | some u =>
          rcases hO b with z | ⟨ob, xs, z⟩
          · rw [q] at z; cases z
          · have z2 := un.frzs b ob _ z
            obtain ⟨e1, _⟩ := hok b _ z
            obtain ⟨e2, _⟩ := hok' b _ z2
            rw [e] at e1; cases e1
            exact e2
  cases hk : K.lookup a with
  | some o =>
    have e := KX a o hk
    rw [ha] at e
    cases e
    refine core (fun _ => none) (fun _ => .inl rfl) (.inr ⟨_, vs.toArray, _, hk, rfl, rfl, rfl, by rw [List.size_toArray, lenV]; exact hl, by simpa using rv⟩) (fun b u z => by have z' : (none : Option HO) = some u := z; cases z') (fun b z => absurd rfl z) fun z => absurd rfl z
  | none =>
    refine core (fun b => if b = a then some (.frz { cls := .type "list", data := .seq vs.toArray } (.lst (ns.map V.int))) else none) (fun b => ?_) (.inl (.inr ⟨{ cls := .type "list", data := .seq vs.toArray }, if_pos rfl⟩)) (fun b u z => ?_) (fun b z => ?_) fun _ => hk
    · by_cases hb : b = a
      · exact .inr ⟨_, _, if_pos hb⟩
      · exact .inl (if_neg hb)
    · by_cases hb : b = a
      · have z' := (if_pos hb).symm.trans z
        cases z'
        subst hb
        exact ⟨ha, by rw [List.length_map]; exact hl, vs, _, rv, ha⟩
      · have z' := (if_neg hb).symm.trans z
        cases z'
    · by_cases hb : b = a
      · exact hb
      · exact absurd (if_neg hb) z
end L2
namespace L2
open PySem PySem.Spec PyProof.Rows
end L2
namespace L2
open PySem PySem.Spec PyProof.Rows
noncomputable def defArgs (s : Stmt) : Arguments := match s with
  | .FunctionDef _ a _ _ _ _ _ _ _ _ => a
  | _ => { posonlyargs := [], args := [], vararg := none, kwonlyargs := [], kw_defaults := [], kwarg := none, defaults := [] }
noncomputable def defBody (s : Stmt) : List Stmt := match s with
  | .FunctionDef _ _ b _ _ _ _ _ _ _ => b
  | _ => []
noncomputable def defScope (s : Stmt) : Scope := match s with
  | .FunctionDef _ _ _ _ _ _ sc _ _ _ => sc
  | _ => { kind := .function, names := [], isGenerator := false, isCoroutine := false }
noncomputable abbrev CX0 : CXT := fun _ _ _ _ _ _ => False
noncomputable abbrev E0 : XK := fun _ _ _ => False
theorem pass0 {X : Cx} : Passes CX0 X E0 := fun _ _ _ _ _ _ _ h => h.elim
structure Fun (K : PySem.W.Frag) (x qual : Str) (st : Stmt) (f : Addr) (fd : FuncData) : Prop where
  ex : ∃ (oc : Value) (od : Option Addr) (kV doc pm : Value) (an : Option Addr) (cdv ct : Value) (osl : Array (Option Value)),
    fd = PySem.W.fnOf x qual (defArgs st) (defBody st) (defScope st) .none kV doc pm an cdv ct ∧ K.lookup f = some ⟨oc, od, .func fd, osl⟩ ∧ PySem.W.codeIn K cdv qual = true
  kp : PySem.W.keepIn K (.ref f) = true
section
variable {P : Program} {w : World} {K : PySem.W.Frag} {mg : Str → Option Value} {base : Heap}
theorem Fun.ok {x qual : Str} {st : Stmt} {f : Addr} {fd : FuncData} {N ps : List Str} {k : Nat} {sp : Sp} (F : Fun K x qual st f fd) (S : FnScope N ps (defScope st)) (len : ∀ vs H Q E, sp vs H Q E → vs.length = ps.length)
    (hbody : ∀ (cdv : Value) (A : Around) (outer : List Env) (s : Shared) (H : Hp) (vs : List V) (Q : VK) (E : XK), Room k (A.deeper (envOfC qual (defScope st) s.heap.objs.size f cdv)) → sp vs H Q E →
      ∃ t, PSs (cxOf CX0 P w K mg base N qual (defScope st) f cdv A outer s H E).nox (defBody st) t ∧ t { nx := fun _ H' => Q .non H', rt := Q } (start N vs) H) : FnOk P w K mg base CX0 (k + 1) f fd ps sp := by
  obtain ⟨oc, od, kV, doc, pm, an, cdv, ct, osl, rfl, lk, hcd⟩ := F.ex
  refine fn_of lk hcd S len fun A outer s H vs Q E hr hsp => ?_
  obtain ⟨t, h, q⟩ := hbody cdv A outer s H vs Q E hr hsp
  exact ⟨t, h.nox, q⟩
theorem Fun.binds {x qual : Str} {st : Stmt} {f : Addr} {fd : FuncData} {ps : List Str} (F : Fun K x qual st f fd)
    (h : ∀ (kV doc pm : Value) (an : Option Addr) (cdv ct : Value) (us : List Value), us.length = ps.length → bindArgs (PySem.W.fnOf x qual (defArgs st) (defBody st) (defScope st) .none kV doc pm an cdv ct) ⟨us, []⟩ = pure (ps.zip us)) : Binds K fd ps [] := by
  obtain ⟨oc, od, kV, doc, pm, an, cdv, ct, osl, rfl, lk, hcd⟩ := F.ex
  exact .all (h kV doc pm an cdv ct)
theorem fun_mk {x qual : Str} {st : Stmt} {f : Addr} {oc : Value} {od an : Option Addr} {osl : Array (Option Value)} {kV doc pm cdv ct : Value} (l : K.lookup f = some ⟨oc, od, .func (PySem.W.fnOf x qual (defArgs st) (defBody st) (defScope st) .none kV doc pm an cdv ct), osl⟩)
    (c : PySem.W.codeIn K cdv qual = true) (k : PySem.W.keepIn K (.ref f) = true) : Fun K x qual st f (PySem.W.fnOf x qual (defArgs st) (defBody st) (defScope st) .none kV doc pm an cdv ct) := ⟨⟨oc, od, kV, doc, pm, an, cdv, ct, osl, rfl, l, c⟩, k⟩
end
section
variable {X : Cx}
theorem pv (i : Nat) {x : Str} {pos : Pos} (hN : X.N[i]? = some x := by rfl) (hv : Vis X.env.scope x := by first | exact Or.inl rfl | exact Or.inr (Or.inl rfl) | exact Or.inr (Or.inr rfl)) (hd : (x == ("__debug__" : Str)) = false := by decide)
    (hcd : (x == ("__classdict__" : Str)) = false := by decide) : PE X (.Name x pos) (tVar i) := pe_var hN hv hd hcd
end
theorem iteF {A B : Prop} (h : B) : if false = true then A else B := by
  rw [if_neg Bool.false_ne_true]
  exact h
theorem iteT {A B : Prop} (h : A) : if true = true then A else B := by
  rw [if_pos rfl]
  exact h
theorem ite2 {c A B : Prop} [Decidable c] (h1 : c → A) (h2 : ¬ c → B) : if c then A else B := by
  by_cases h : c
  · rw [if_pos h]
    exact h1 h
  · rw [if_neg h]
    exact h2 h
noncomputable def Same (H H' : Hp) : Prop := ∀ b o, H b = some o → H' b = some o
theorem Same.refl (H : Hp) : Same H H := fun _ _ h => h
theorem Same.trans {H H1 H2 : Hp} (a : Same H H1) (b : Same H1 H2) : Same H H2 := fun c o h => b c o (a c o h)
theorem Same.free {H H' : Hp} (e : Same H H') {l : Addr} (h : H' l = Option.none) : H l = Option.none := by
  cases q : H l with
  | none => rfl
  | some o =>
    rw [e l o q] at h
    cases h
theorem Same.seq {K : PySem.W.Frag} {H H' : Hp} {a : Addr} {xs : List V} (e : Same H H') (h : SqL K H a xs) : SqL K H' a xs := by
  rcases h with (h | ⟨o, h⟩) | h
  · exact .inl (.inl (e _ _ h))
  · exact .inl (.inr ⟨o, e _ _ h⟩)
  · exact .inr h
end L2
set_option maxHeartbeats 4000000
namespace L2
open PySem PySem.Spec PyProof.Rows
section
variable {X : Cx}
noncomputable def Sml (i : Int) : Prop := i.natAbs < 2 ^ 4000
theorem Sml.bits {i : Int} (h : Sml i) : Builtin.Int.intBits i ≤ 4000 := intBits_le_iff.mpr h
theorem call_isinst : CallR X (.builtin "isinstance") (fun xs H Q => ∃ x t T b, xs = [x, .ty T] ∧ TyOf X.K H x t ∧ PySem.W.kitOne X.K t (.type T) = some b ∧ Q (.bl b) H) := by
  intro pins s σ H xs us Q I r h
  obtain ⟨x, t, T, b, rfl, ty, e, q⟩ := h
  obtain ⟨u, w', rfl, r1, r2⟩ := vals2 r
  cases r2
  exact isinst_ok I r1 ty e fun tk => ⟨.bl b, H, I.tok _, rfl, q⟩
theorem intItems_of : ∀ {ns : List Int} {us : List Value}, Vals (ns.map V.int) us → ∃ xs : Array (Int × Tok), us.toArray = intItems xs ∧ xs.toList.map (·.1) = ns := fun {ns us} r => by
  have hi : IntsAre us ns := intsAre_of r
  obtain ⟨xs, hx⟩ := hi.allInts.items
  refine ⟨xs, hx, ?_⟩
  rw [← nums_intItems, ← hx]
  exact (show numsOf us.toArray.toList = ns from hi.numsOf)
theorem call_sum (hc : X.calm = true) : CallR X (.builtin "sum") (fun xs H Q => ∃ (p : Addr) (ns : List Int), xs = [.ref p] ∧ SqL X.K H p (ns.map V.int) ∧ Q (.int ns.sum) H) := by
  intro pins s σ H xs us Q I r h
  obtain ⟨p, ns, rfl, hq, q⟩ := h
  obtain ⟨u, rfl, r1⟩ := vals1 r
  cases r1
  obtain ⟨its, rv, pl, hz⟩ := I.list hq
  obtain ⟨ys, hy, e1⟩ := intItems_of rv
  refine sum_intListG (I.ok.hd hc) (hy ▸ pl.isList) fun h' tk t' hk => ?_
  have e2 : preSum (numAt ys) ys.size = ns.sum := by
    rw [preSum_eq, List.take_of_length_le (by simp), e1]
  rw [e2]
  exact ⟨.int ns.sum, H, I.kept hk, ⟨_, rfl⟩, q⟩
end
theorem boot_min : bootBuiltins "min" = some (.builtin "min") := PyProof.Rows.boot_min
theorem boot_max : bootBuiltins "max" = some (.builtin "max") := PyProof.Rows.boot_max
theorem boot_sum : bootBuiltins "sum" = some (.builtin "sum") := PyProof.Rows.boot_sum
theorem boot_abs : bootBuiltins "abs" = some (.builtin "abs") := PyProof.Rows.boot_abs
theorem boot_isinstance : bootBuiltins "isinstance" = some (.builtin "isinstance") := PyProof.Rows.boot_isinstance
theorem boot_int : bootBuiltins "int" = some (.type "int") := PyProof.Rows.boot_int
theorem boot_bool : bootBuiltins "bool" = some (.type "bool") := PyProof.Rows.boot_bool
theorem boot_tuple : bootBuiltins "tuple" = some (.type "tuple") := PyProof.Rows.boot_tuple
theorem boot_list : bootBuiltins "list" = some (.type "list") := PyProof.Rows.boot_list
theorem getD_in {α : Type} {ns : List α} {i : Nat} {d : α} (h : i < ns.length) : ns.getD i d = ns[i] := by simp [List.getD, h]
theorem getD_out {α : Type} {ns : List α} {i : Nat} {d : α} (h : ns.length ≤ i) : ns.getD i d = d := by simp [List.getD, h]
theorem same_new {H : Hp} {p : Addr} (h : H p = none) (o : HO) : Same H (upd H p o) := fun b u q => by rw [upd_ne (ne_of_none q h)]; exact q
theorem eqT {Q : VK} {H : Hp} {a b : V} (e : a = b) (q : Q (.bl true) H) : Q (.bl (decide (a = b))) H := by
  rw [decide_eq_true e]; exact q
theorem ofD {p : Prop} [Decidable p] (h : ¬ decide p = true) : ¬ p := of_decide_eq_false (Bool.eq_false_iff.mpr h)
theorem sub1 {cs : List (Str × Addr)} {x : Str} {c : Addr} (h : cs.lookup x = some c) : ∀ y c', [(x, c)].lookup y = some c' → cs.lookup y = some c' := fun y c' e => by
  by_cases z : y = x
  · subst z
    simp at e
    subst e
    exact h
  · have : (y == x) = false := by simpa using z
    simp [List.lookup, this] at e
theorem at_getD {ns : List Int} {i : Int} (h0 : 0 ≤ i) (h1 : i < (ns.length : Int)) : atI (ns.map V.int) i = some (.int (ns.getD i.toNat 0)) := by
  have hk : i.toNat < ns.length := by omega
  have ek : i = ((i.toNat : Nat) : Int) := by omega
  have z : atI (ns.map V.int) ((i.toNat : Nat) : Int) = some (.int ns[i.toNat]) := atI_nat (by rw [List.getElem?_map, List.getElem?_eq_getElem hk] <;> rfl)
  rw [← ek] at z
  rw [z, getD_in hk]
theorem md0 (c : Int) {m : Int} (h : 0 < m) : 0 ≤ c % m := Int.emod_nonneg _ (by omega)
theorem md1 (c : Int) {m : Int} (h : 0 < m) : c % m < m := Int.emod_lt_of_pos _ h
end L2
set_option maxHeartbeats 4000000
namespace L2
open PySem PySem.Spec PyProof.Rows
noncomputable def cxComp (X : Cx) (N' : List Str) (scope : Scope) (cl : List (Str × Addr)) (C : Addr) (s3 : Shared) (H3 : Hp) (fp : List Addr) : Cx where
  prog := X.prog
  w := X.w
  K := X.K
  mg := X.mg
  base := X.base
  A := X.A
  N := N'
  s₀ := s3
  H₀ := H3
  env := compEnvC scope cl C X.env
  outer := X.stack
  stack := X.stack
  ex := fp
  fn := fun _ => false
  calm := X.calm
  pn := []
  xe := fun _ _ => False
noncomputable def taken (σ : St) (fr : List Nat) : St := fr.map fun j => (σ[j]?).getD none
noncomputable def CompGo (J : It) (te : TE) (st : St) (D : Addr) (H1 : Hp) (Q : VK) : Prop :=
  ∃ W : Nat → Nat → List V → Hp → Prop, (∃ m, W 0 m [] (upd H1 D (.lst []))) ∧ ∀ i m ys H2, W i m ys H2 →
    (J.stop i H2 ∧ Q (.ref D) H2) ∨ (J.go i H2 ∧ ∀ x H3, J.yld i H2 x H3 → te (some x :: st) H3 fun y H4 => H4 D = some (.lst ys) ∧ ys.length < sizeLine ∧ ∃ m', m' < m ∧ W (i + 1) m' (ys ++ [y]) (upd H4 D (.lst (ys ++ [y]))))
noncomputable def tComp (wi : TI) (fr : List Nat) (te : TE) : TE := fun σ H Q => wi σ H fun J H1 => ∀ D, H1 D = none → CompGo J te (taken σ fr) D H1 Q
theorem compLoop_any {prog : Program} {w : World} {A : Around} {R : Result → Shared → Prop} {s : Shared} {elt tg iter : Expr} {scope : Scope} {pos : Pos} {it acc : Value} {env : Env} (Iv : Nat → Shared → Prop)
    (turn : ∀ k s, Iv k s → wpAny (model prog w) A (pyNext it) (fun r s1 => match r with
      | none => R (.ok .next) s1
      | some v => wpAny (model prog w) A (letOwnedTupleGo tg it v) (fun _ s2 => wpAny (model prog w) A (assign tg env v) (fun _ s3 => wpAny (model prog w) A (eval elt env) (fun y s4 =>
          wpAny (model prog w) A (call (.builtin "list.append") [acc, y]) (fun _ s5 => ∃ m, m < k ∧ Iv m s5) (fun _ _ => False) s4) (fun _ _ => False) s3) (fun _ _ => False) s2) (fun _ _ => False) s1) (fun _ _ => False) s)
    (k : Nat) (h : Iv k s) : codeAny (model prog w) A (.compLoop (.ListComp elt [⟨tg, iter, [], 0⟩] scope pos) 0 it acc env) R s := by
  refine codeAny_loop rfl Iv (fun k s hI => ?_) k h
  show wpAny _ _ ((compTurn (.ListComp elt [⟨tg, iter, [], 0⟩] scope pos) 0 it acc env).onRaise (fun e => do noteFrame e env; theTreesLotGoes e)) _ _ s
  refine wpAny_noted ?_
  rw [compTurn_list1]
  refine wpAny_bind (wpAny_standAt (wpAny_bind (wpAny_mono (turn k s hI) (fun r s1 h1 => ?_) fun _ _ f => f.elim)))
  cases r with
  | none => exact wpAny_pure h1
  | some v =>
    exact wpAny_bind (wpAny_mono h1 (fun _ s2 h2 => wpAny_bind (wpAny_mono h2 (fun _ s3 h3 => wpAny_bind (wpAny_bind (wpAny_mono h3 (fun y s4 h4 => wpAny_bind (wpAny_mono h4
      (fun _ s5 h5 => wpAny_pure (wpAny_pure ⟨rfl, h5⟩)) fun _ _ f => f.elim)) fun _ _ f => f.elim))) fun _ _ f => f.elim)) fun _ _ f => f.elim)
theorem comp_range {lo : Int} {n : Nat} {te : TE} {st : St} {H1 : Hp} {Q : VK} {D : Addr} (f : Nat → V) (hD : H1 D = none) (hn : n ≤ sizeLine)
    (hs : ∀ (i : Nat) (H2 : Hp) (k : VK), i < n → Same H1 H2 → (∀ H4, Same H2 H4 → k (f i) H4) → te (some (.int (lo + i)) :: st) H2 k)
    (hd : ∀ H2, Same H1 H2 → H2 D = some (.lst ((List.range n).map f)) → Q (.ref D) H2) : CompGo (Itr lo n) te st D H1 Q := by
  have same : ∀ {H2 : Hp} {o : HO}, Same H1 H2 → Same H1 (upd H2 D o) := fun {H2 o} h b u e => by rw [upd_ne (ne_of_none e hD)]; exact h b u e
  refine ⟨fun i m ys H2 => m = n - i ∧ i ≤ n ∧ ys = (List.range i).map f ∧ Same H1 H2 ∧ H2 D = some (.lst ys), ⟨n, by simp, Nat.zero_le _, rfl, same (Same.refl H1), upd_same⟩, ?_⟩
  rintro i m ys H2 ⟨rfl, hi, rfl, sm, e⟩
  by_cases hlt : i < n
  · refine .inr ⟨hlt, fun x H3 y => ?_⟩
    obtain ⟨e1, e2⟩ := y
    subst e1 e2
    have ln : ((List.range i).map f).length = i := by rw [List.length_map, List.length_range]
    refine hs i _ _ hlt sm fun H4 s4 => ⟨s4 _ _ e, by rw [ln]; omega, n - (i + 1), by omega, rfl, hlt, ?_, same (sm.trans s4), upd_same⟩
    rw [List.range_succ, List.map_append] <;> rfl
  · have ei : i = n := by omega
    subst ei
    exact .inl ⟨Nat.le_refl _, hd _ sm e⟩
structure CompOk (X : Cx) (x : Str) (ts : List (Str × Nat)) (scope : Scope) (cl : List (Str × Addr)) : Prop where
  clos : closureFor scope X.env = pure cl
  sub : ∀ y c, cl.lookup y = some c → X.env.cells.lookup y = some c
  nocell : (scope.names.all fun p => p.2 != .cell) = true
  kind : scope.kind = .function
  locs : (scope.names.all fun p => p.2 != .local || scope.names.lookup p.1 == some .local) = true
  var : scope.names.lookup x = some .local
  nd : (x :: ts.map (·.1)).Nodup
  around : (ts.all fun p => decide (X.N[p.2]? = some p.1) && (X.env.kindOf p.1 == some .cell || X.env.kindOf p.1 == some .free) && (cl.lookup p.1).isSome &&
    ((relabel scope X.env).names.lookup p.1 == some .cell || (relabel scope X.env).names.lookup p.1 == some .free)) = true
  has : ((relabel scope X.env).names.all fun p => !(p.2 == .cell || p.2 == .free) || (cl.lookup p.1).isSome) = true
noncomputable abbrev nmsOf (x : Str) (ts : List (Str × Nat)) : List Str := x :: ts.map (·.1)
noncomputable abbrev sltOf (ts : List (Str × Nat)) : List Nat := ts.map (·.2)
theorem CompOk.nocell' {X : Cx} {x : Str} {ts : List (Str × Nat)} {scope : Scope} {cl : List (Str × Addr)} (O : CompOk X x ts scope cl) : ∀ y ∈ scope.names, y.2 ≠ .cell := fun y hy e => by
  have := List.all_eq_true.mp O.nocell y hy
  rw [e] at this
  cases this
theorem CompOk.locs' {X : Cx} {x : Str} {ts : List (Str × Nat)} {scope : Scope} {cl : List (Str × Addr)} (O : CompOk X x ts scope cl) : ∀ y ∈ scope.names, y.2 = .local → scope.names.lookup y.1 = some .local := fun y hy e => by
  have h := List.all_eq_true.mp O.locs y hy
  rw [e] at h
  rcases Bool.or_eq_true_iff.mp h with z | z
  · cases z
  · exact beq_iff_eq.mp z
theorem CompOk.from' {X : Cx} {x : Str} {ts : List (Str × Nat)} {scope : Scope} {cl : List (Str × Addr)} (O : CompOk X x ts scope cl) : ∀ (i : Nat) (y : Str), (nmsOf x ts)[i + 1]? = some y → ∃ j, (sltOf ts)[i]? = some j ∧ X.N[j]? = some y ∧ (X.env.kindOf y = some .cell ∨ X.env.kindOf y = some .free) ∧ (cl.lookup y).isSome = true ∧
    ((relabel scope X.env).names.lookup y = some .cell ∨ (relabel scope X.env).names.lookup y = some .free) := fun i y e => by
  have e1 : (ts.map (·.1))[i]? = some y := by simpa using e
  rw [List.getElem?_map] at e1
  cases q : ts[i]? with
  | none => rw [q] at e1; cases e1
  | some p =>
    rw [q] at e1
    have e2 : p.1 = y := Option.some.inj e1
    subst e2
    have h := List.all_eq_true.mp O.around p (List.mem_of_getElem? q)
    simp only [Bool.and_eq_true, Bool.or_eq_true, beq_iff_eq, decide_eq_true_eq] at h
    obtain ⟨⟨⟨h1, h2⟩, h3⟩, h4⟩ := h
    refine ⟨p.2, ?_, h1, h2, h3, h4⟩
    show (ts.map (·.2))[i]? = some p.2
    rw [List.getElem?_map, q] <;> rfl
theorem CompOk.has' {X : Cx} {x : Str} {ts : List (Str × Nat)} {scope : Scope} {cl : List (Str × Addr)} (O : CompOk X x ts scope cl) : ∀ y, ((relabel scope X.env).names.lookup y = some .cell ∨ (relabel scope X.env).names.lookup y = some .free) → (cl.lookup y).isSome = true := fun y h => by
  have go : ∀ k : NameKind, (k = .cell ∨ k = .free) → (relabel scope X.env).names.lookup y = some k → (cl.lookup y).isSome = true := fun k hk e => by
    have z := List.all_eq_true.mp O.has (y, k) (PySem.mem_of_lookup e)
    rcases Bool.or_eq_true_iff.mp z with z | z
    · rcases hk with e | e <;> (rw [e] at z; cases z)
    · exact z
  rcases h with h | h
  · exact go _ (.inl rfl) h
  · exact go _ (.inr rfl) h
section
variable {X : Cx} {elt iter : Expr} {x : Str} {px pos : Pos} {scope : Scope} {cl : List (Str × Addr)} {ts : List (Str × Nat)} {wi : TI} {te : TE}
theorem comp_ok {pins : List (Addr × Obj)} {σ : St} {H3 : Hp} {s3 : Shared} {fp : List Addr} (O : CompOk X x ts scope cl) (I3 : Inv X pins σ H3 s3) (hfp : ∀ b ∈ fp, FpOk X pins H3 b ∧ b < s3.heap.objs.size) :
    (cxComp X (nmsOf x ts) scope cl s3.heap.objs.size s3 H3 fp).Ok where
  mod := I3.ok.mod
  kind := O.kind
  glob := I3.ok.glob
  blt := I3.ok.blt
  above := Nat.le_refl _
  inj := fun y z c h1 h2 => I3.ok.inj y z c (O.sub y c h1) (O.sub z c h2)
  has := fun y h => Option.isSome_iff_exists.mp (O.has' y h)
  cab := fun y c h => by cases h
  hd := I3.ok.hd
  frames := I3.ok.frames
  stk := .inl rfl
  exf := fun b hb => ⟨Nat.ne_of_lt (hfp b hb).2, fun y c e => (hfp b hb).1.2.2.2.2.1 y c (O.sub y c e)⟩
  bs := fun b o e => I3.bs b o e
  bsz := Nat.le_trans I3.ok.bsz I3.sz
  noex := fun b o e hb => by
    rcases (hfp b hb).1.2.2.2.1 with z | z
    · exact I3.ok.noex b o e z
    · exact absurd (Nat.lt_of_lt_of_le (Heap.lt_size (I3.ok.bs b o e).1) z) (Nat.lt_irrefl _)
  exfs := fun b hb hz => by
    rcases List.mem_cons.mp (I3.stkSub b hz) with e | e
    · exact (hfp b hb).1.2.1 e
    · exact (hfp b hb).1.2.2.1 e
  funs := I3.stack
  frf := I3.stkFree
theorem comp_start {pins : List (Addr × Obj)} {σ : St} {H3 : Hp} {s3 : Shared} {fp : List Addr} {h1 : Heap} {tk : Nat} (O : CompOk X x ts scope cl) (I3 : Inv X pins σ H3 s3) (hfp : ∀ b ∈ fp, FpOk X pins H3 b ∧ b < s3.heap.objs.size)
    (hns : h1.Ns s3.heap.objs.size fun _ => none) (old : ∀ b o, s3.heap.get? b = some o → h1.get? b = some o) :
    Inv (cxComp X (nmsOf x ts) scope cl s3.heap.objs.size s3 H3 fp) [] (none :: taken σ (sltOf ts)) H3 { s3 with heap := h1, toks := tk } := by
  refine ⟨comp_ok O I3 hfp, rfl, I3.bare, Un.kept old, ⟨_, hns, fun i y v e1 e2 e3 => ?_⟩, fun y c e => ?_, I3.hok.fresh (Nat.le_refl _), fun y c e => I3.freeC y c (O.sub y c e), fun p hp => absurd (show p ∈ ([] : List (Addr × Obj)) from hp) (by simp), I3.hok.kept old, ?_⟩
  · cases i with
    | zero => simp at e2
    | succ i =>
      obtain ⟨j, hj, hN, hk, hcl, hk2⟩ := O.from' i y e1
      have e2' : σ[j]? = some (some v) := by
        have q : (taken σ (sltOf ts))[i]? = some (some v) := by simpa using e2
        unfold taken at q
        rw [List.getElem?_map, hj] at q
        have q' : (σ[j]?).getD none = some v := Option.some.inj q
        cases z : σ[j]? with
        | none => rw [z] at q'; cases q'
        | some w => rw [z] at q'; rw [show w = some v from q']
      obtain ⟨m, hn, hl⟩ := I3.loc
      have vis : Vis X.env.scope y := hk.elim (fun z => .inr (.inl z)) fun z => .inr (.inr z)
      obtain ⟨u, r, l⟩ := hl j y v hN e2' vis
      obtain ⟨c, hc⟩ := Option.isSome_iff_exists.mp hcl
      refine ⟨u, r, .inr ⟨hk2, c, hc, ?_⟩⟩
      rcases l with ⟨k, _⟩ | ⟨_, c', hc', z⟩
      · rcases hk with hk | hk
        · rw [k] at hk; cases hk
        · rw [k] at hk; cases hk
      · rw [O.sub y c hc] at hc'
        cases hc'
        obtain ⟨o, ho, hd⟩ := z
        exact ⟨o, old c o ho, hd⟩
  · obtain ⟨v, o, ho, hd⟩ := I3.cell y c (O.sub y c e)
    exact ⟨v, o, old c o ho, hd⟩
  · show (none :: taken σ (sltOf ts)).length = (nmsOf x ts).length
    simp [taken]
theorem pe_comp (hc : X.calm = true) (O : CompOk X x ts scope cl) (hi : PI X (.Name x px) iter wi) (he : ∀ C s3 H3 fp, PE (cxComp X (nmsOf x ts) scope cl C s3 H3 fp) elt te)
    (hs : ∀ x, foldedSetIterable iter X.env x = pure x := by intro _; rfl) : PE X (.ListComp elt [⟨.Name x px, iter, [], 0⟩] scope pos) (tComp wi (sltOf ts) te) := by
  intro pins s σ H Q I h
  rw [eval_ListComp]
  refine wpAny_comprehension_free (use := none) rfl hs O.clos O.kind O.locs' (thn (hi pins s σ H _ I h) fun v s1 h1 => thn h1 fun itv s2 h2 => ?_)
  obtain ⟨it, fp, tn, J, H2, rfl, I2, T, st2, f2, q⟩ := h2
  have hD : H2 s2.heap.objs.size = none := I2.hok.fresh (Nat.le_refl _)
  obtain ⟨W, ⟨m0, w0⟩, turn⟩ := q s2.heap.objs.size hD
  refine wpAny_newObj_type ?_
  have I3 : Inv X pins σ (upd H2 s2.heap.objs.size (.lst [])) { s2 with heap := s2.heap.push { cls := .type "list", dict := none, data := .seq ([] : List Value).toArray } } :=
    I2.laid (a := s2.heap.objs.size) (o := .lst []) (t' := s2.toks) (fun b u e => Heap.get?_push_of_some _ e) (Nat.le_refl _) ⟨Nat.zero_le _, [], 0, .nil, Heap.get?_push_size _ rfl⟩
  generalize hs3 : ({ s2 with heap := s2.heap.push { cls := .type "list", dict := none, data := .seq ([] : List Value).toArray } } : Shared) = s3 at I3
  have sz3 : s3.heap.objs.size = s2.heap.objs.size + 1 := by rw [← hs3, Heap.size_push]
  have old3 : ∀ b u, s2.heap.get? b = some u → s3.heap.get? b = some u := fun b u e => by rw [← hs3]; exact Heap.get?_push_of_some _ e
  generalize hH3 : upd H2 s2.heap.objs.size (.lst []) = H3 at I3 w0
  have H3D : H3 s2.heap.objs.size = some (.lst []) := by rw [← hH3]; exact upd_same
  have fp2 : ∀ b ∈ fp, b < s2.heap.objs.size := fun b hb => by
    obtain ⟨o, e, _⟩ := T.obj _ _ st2 b hb
    exact Heap.lt_size e
  have hfp : ∀ b ∈ fp, FpOk X pins H3 b ∧ b < s3.heap.objs.size := fun b hb => by
    refine ⟨⟨?_, (f2 b hb).2⟩, by rw [sz3]; exact Nat.lt_succ_of_lt (fp2 b hb)⟩
    rw [← hH3, upd_ne (Nat.ne_of_lt (fp2 b hb))]
    exact (f2 b hb).1
  refine wpAny_newFunctionEnv O.nocell' (by intro y hy; simp at hy) (fun h₁ hns₁ hsb₁ => ?_) O.kind
  have old : ∀ b o, s3.heap.get? b = some o → h₁.get? b = some o := fun b o e => hsb₁.extBut b o (Nat.ne_of_lt (Heap.lt_size e)) (Heap.get?_push_of_some _ e)
  have start : Inv (cxComp X (nmsOf x ts) scope cl s3.heap.objs.size s3 H3 fp) [] (none :: taken σ (sltOf ts)) H3 { s3 with heap := h₁, toks := s3.toks + 0 } := comp_start O I3 hfp hns₁ old
  have st4 : tn 0 h₁ := T.keep _ _ _ st2 fun b hb o e => old b o (old3 b o e)
  have okX : ∀ {H' : Hp}, (∀ b ∈ fp, H' b = none) → ∀ b ∈ fp, FpOk (cxComp X (nmsOf x ts) scope cl s3.heap.objs.size s3 H3 fp) [] H' b := fun hn b hb => by
    refine ⟨hn b hb, Nat.ne_of_lt (hfp b hb).2, fun z => ?_, .inl hb, fun y c e => (f2 b hb).2.2.2.2.1 y c (O.sub y c e), fun p hp => absurd (show p ∈ ([] : List (Addr × Obj)) from hp) (by simp)⟩
    rcases List.mem_cons.mp (I3.stkSub b z) with e | e
    · exact (f2 b hb).2.1 e
    · exact (f2 b hb).2.2.1 e
  have loop : ∀ s₄ : Shared, s₄ = { s3 with heap := h₁, toks := s3.toks + 0 } →
      codeAny (model X.prog X.w) X.A (.compLoop (.ListComp elt [⟨.Name x px, iter, [], 0⟩] scope pos) 0 (.ref it) (.ref s2.heap.objs.size) (compEnvC scope cl s3.heap.objs.size X.env))
        (compPost (model X.prog X.w) X.A X.xe none (EP X pins σ Q) (.ref s2.heap.objs.size) s3.heap.objs.size) s₄ := by
    rintro s₄ rfl
    refine compLoop_any (fun n s' => ∃ i ys σ0 H', Inv (cxComp X (nmsOf x ts) scope cl s3.heap.objs.size s3 H3 fp) [] (σ0 :: taken σ (sltOf ts)) H' s' ∧ tn i s'.heap ∧ (∀ b ∈ fp, H' b = none) ∧ W i n ys H') ?_ m0
      ⟨0, [], none, H3, start, st4, fun b hb => (hfp b hb).1.1, w0⟩
    rintro n s5 ⟨i, ys, σ0, H5, I5, st5, fr5, w5⟩
    rcases turn i n ys H5 w5 with ⟨stop, qn⟩ | ⟨go, step⟩
    · refine thn (T.done (cxComp X (nmsOf x ts) scope cl s3.heap.objs.size s3 H3 fp) rfl rfl rfl hc i [] s5 (σ0 :: taken σ (sltOf ts)) H5 _ I5 (okX fr5) st5 stop) fun r s6 ⟨hr, I6⟩ => ?_
      subst hr
      obtain ⟨m, hn, _⟩ := id I6.loc
      refine ⟨m, hn, fun h' sb => ?_⟩
      have u6 : Un (frs X.stack) fp H3 H5 s3.heap s6.heap := I6.base
      have neC : ∀ b o, s3.heap.get? b = some o → b ≠ s3.heap.objs.size := fun b o e => Nat.ne_of_lt (Heap.lt_size e)
      have un : Un (frs X.stack) fp H3 H5 s3.heap h' := ⟨fun b o e n1 hb hx => (sb.2 b (neC b o e)).trans (u6.keep b o e n1 hb hx), fun b o e n1 hb hx => by
          obtain ⟨sl, z⟩ := u6.slot b o e n1 hb hx
          exact ⟨sl, (sb.2 b (neC b o e)).trans z⟩, u6.free, fun b o e hx => by
          obtain ⟨o', z⟩ := u6.there b o e hx
          exact ⟨o', (sb.2 b (neC b o e)).trans z⟩, u6.tups, u6.frzs, u6.tbls⟩
      have hok : HOk X.prog X.w H5 h' := fun b u e => by
        refine (I6.hok b u e).stay (fun c v hc' z => (sb.2 c ?_).trans z) (fun _ z => z) fun _ _ z => z
        rintro rfl
        have fC : H5 s3.heap.objs.size = none := I6.free
        rcases hc' with z' | z'
        · rw [← z', fC] at e; cases e
        · rw [fC] at z'; cases z'
      refine ⟨.ref s2.heap.objs.size, H5, I3.call' (s' := { s6 with heap := h' }) (ch := fp) ?_ un hok I6.bare (fun b hb => ⟨(f2 b hb).2.2.2.1, (f2 b hb).2.1, (f2 b hb).2.2.2.2.1, (f2 b hb).2.2.2.2.2⟩), rfl, qn⟩
      exact I6.os
    · refine thn (T.item (cxComp X (nmsOf x ts) scope cl s3.heap.objs.size s3 H3 fp) rfl rfl rfl hc i [] s5 (σ0 :: taken σ (sltOf ts)) H5 _ I5 (okX fr5) st5 go) fun r s6 ⟨u, hr, h6⟩ => ?_
      subst hr
      refine thn h6 fun _ s7 ⟨z, H7, I7, rz, yz, st7, fr7⟩ => ?_
      have I7' := I7.pinned (okX fr7) (T.obj _ _ st7)
      have PG' : PG (cxComp X (nmsOf x ts) scope cl s3.heap.objs.size s3 H3 fp) (.Name x px) (gName 0) := pg_name (i := 0) O.nd rfl (.inl (lookup_relabel_local O.var)) (.inr (lookup_relabel_local O.var))
      refine thn (PG' _ s7 _ H7 z u (fun σ' H' => σ' = some z :: taken σ (sltOf ts) ∧ H' = H7) I7' rz ⟨rfl, rfl⟩) fun _ s8 ⟨σ8, H8, I8, e8, eh8⟩ => ?_
      subst e8 eh8
      refine thn (he s3.heap.objs.size s3 H3 fp _ s8 _ H8 _ I8 (step z H8 yz)) fun y s9 ⟨vy, H9, I9, ry, hD9, hl9, m', hm', w9⟩ => ?_
      refine thn (mt_append (X := cxComp X (nmsOf x ts) scope cl s3.heap.objs.size s3 H3 fp) _ s9 _ H9 (.ref s2.heap.objs.size) [vy] (.ref s2.heap.objs.size) [y] (fun _ H10 => H10 = upd H9 s2.heap.objs.size (.lst (ys ++ [vy]))) I9 rfl (.cons ry .nil) ⟨_, ys, vy, rfl, rfl, hD9, hl9, rfl⟩) fun _ s10 ⟨_, H10, I10, _, e10⟩ => ?_
      subst e10
      refine ⟨m', hm', i + 1, ys ++ [vy], some z, _, I10.unpinned, T.keep _ _ _ st7 fun b hb o e => (I10.pin (b, o) (List.mem_append_right _ (List.mem_append_right _ (mem_pinsAt hb e)))).1, fun b hb => ?_, w9⟩
      obtain ⟨o, e, d⟩ := T.obj _ _ st7 b hb
      exact (I10.pin (b, o) (List.mem_append_right _ (List.mem_append_right _ (mem_pinsAt hb e)))).2.1
  have hst := codeAny_compStart_list (loop _ rfl) (T.self X.A 0 _ _ _ st4 (loop _ rfl))
  exact hst
end
end L2
set_option maxHeartbeats 4000000
namespace L2
open PySem PySem.Spec PyProof.Rows
inductive Th where
  | non | bl (b : Bool) | int (i : Int) | str (x : Str) | lst (xs : List Th) | tup (xs : List Th) | emp | dic
mutual
noncomputable def Den (H : Hp) : Th → V → Prop
  | .non, v => v = .non
  | .bl b, v => v = .bl b
  | .int i, v => v = .int i
  | .str x, v => v = .str x
  | .lst ts, v => ∃ a xs, v = .ref a ∧ H a = some (.lst xs) ∧ Dens H ts xs
  | .tup ts, v => ∃ a xs, v = .ref a ∧ H a = some (.tup xs) ∧ Dens H ts xs
  | .emp, v => ∃ a, v = .ref a ∧ H a = some (.dK [])
  | .dic, v => ∃ a kvs, v = .ref a ∧ H a = some (.dK kvs)
noncomputable def Dens (H : Hp) : List Th → List V → Prop
  | [], xs => xs = []
  | t :: ts, xs => ∃ y ys, xs = y :: ys ∧ Den H t y ∧ Dens H ts ys
end
mutual
theorem Den.keep {H H' : Hp} (s : Same H H') : ∀ {t : Th} {v : V}, Den H t v → Den H' t v
  | .non, _, h => h
  | .bl _, _, h => h
  | .int _, _, h => h
  | .str _, _, h => h
  | .lst _, _, ⟨a, xs, e, h, d⟩ => ⟨a, xs, e, s _ _ h, Dens.keep s d⟩
  | .tup _, _, ⟨a, xs, e, h, d⟩ => ⟨a, xs, e, s _ _ h, Dens.keep s d⟩
  | .emp, _, ⟨a, e, h⟩ => ⟨a, e, s _ _ h⟩
  | .dic, _, ⟨a, k, e, h⟩ => ⟨a, k, e, s _ _ h⟩
theorem Dens.keep {H H' : Hp} (s : Same H H') : ∀ {ts : List Th} {xs : List V}, Dens H ts xs → Dens H' ts xs
  | [], _, h => h
  | _ :: _, _, ⟨y, ys, e, d, ds⟩ => ⟨y, ys, e, Den.keep s d, Dens.keep s ds⟩
end
theorem Dens.len {H : Hp} : ∀ {ts : List Th} {xs : List V}, Dens H ts xs → xs.length = ts.length
  | [], _, h => by rw [show _ = [] from h]; rfl
  | _ :: _, _, ⟨y, ys, e, d, ds⟩ => by rw [e, List.length_cons, List.length_cons, Dens.len ds]
theorem Dens.get {H : Hp} : ∀ {ts : List Th} {xs : List V} {i : Nat} {t : Th}, Dens H ts xs → ts[i]? = some t → ∃ v, xs[i]? = some v ∧ Den H t v
  | _ :: _, _, 0, t, ⟨y, ys, e, d, ds⟩, h => by
    rw [List.getElem?_cons_zero] at h
    cases h
    exact ⟨y, by rw [e]; rfl, d⟩
  | _ :: _, _, i + 1, t, ⟨y, ys, e, d, ds⟩, h => by
    rw [List.getElem?_cons_succ] at h
    obtain ⟨v, h1, h2⟩ := Dens.get ds h
    exact ⟨v, by rw [e, List.getElem?_cons_succ]; exact h1, h2⟩
noncomputable def tyTh : Th → Value
  | .non => .type "NoneType"
  | .bl _ => .type "bool"
  | .int _ => .type "int"
  | .str _ => .type "str"
  | .lst _ => .type "list"
  | .tup _ => .type "tuple"
  | .emp => .type "dict"
  | .dic => .type "dict"
theorem Den.ty {K : PySem.W.Frag} {H : Hp} : ∀ {t : Th} {v : V}, Den H t v → TyOf K H v (tyTh t)
  | .non, _, h => by cases (show _ = V.non from h); exact .non
  | .bl b, _, h => by cases (show _ = V.bl b from h); exact .bl b
  | .int i, _, h => by cases (show _ = V.int i from h); exact .int i
  | .str x, _, h => by cases (show _ = V.str x from h); exact .str x
  | .lst _, _, ⟨a, xs, e, h, _⟩ => by subst e; exact .lst h
  | .tup _, _, ⟨a, xs, e, h, _⟩ => by subst e; exact .tup h
  | .emp, _, ⟨a, e, h⟩ => by subst e; exact .dK h
  | .dic, _, ⟨a, k, e, h⟩ => by subst e; exact .dK h
noncomputable def isIntT : Th → Bool
  | .int _ => true
  | .bl _ => true
  | _ => false
noncomputable def isBoolT : Th → Bool
  | .bl _ => true
  | _ => false
noncomputable def isTupT : Th → Bool
  | .tup _ => true
  | _ => false
noncomputable def isLstT : Th → Bool
  | .lst _ => true
  | _ => false
theorem kit_int {K : PySem.W.Frag} (t : Th) : PySem.W.kitOne K (tyTh t) (.type "int") = some (isIntT t) := by cases t <;> rfl
theorem kit_bool {K : PySem.W.Frag} (t : Th) : PySem.W.kitOne K (tyTh t) (.type "bool") = some (isBoolT t) := by cases t <;> rfl
theorem kit_tuple {K : PySem.W.Frag} (t : Th) : PySem.W.kitOne K (tyTh t) (.type "tuple") = some (isTupT t) := by cases t <;> rfl
section
variable {X : Cx}
theorem kitx_ty {pins : List (Addr × Obj)} {σ : St} {H : Hp} {s : Shared} {t : Th} {x : V} {u : Value} (I : Inv X pins σ H s) (rx : RelV x u) (d : Den H t x) : ∃ HP : Heap → Prop, PySem.W.KitX X.K u (tyTh t) HP ∧ HP s.heap ∧ u ≠ .builtin "__main__.__loader__#opaque" := by
  cases t with
  | non => cases (show x = V.non from d); cases (show u = Value.none from rx); exact ⟨_, PySem.W.kitx_none, True.intro, fun z => nomatch z⟩
  | bl b => cases (show x = V.bl b from d); cases (show u = Value.bool b from rx); exact ⟨_, PySem.W.kitx_bool, True.intro, fun z => nomatch z⟩
  | int i => cases (show x = V.int i from d); obtain ⟨k, q⟩ := (show ∃ k, u = Value.int i k from rx); cases q; exact ⟨_, PySem.W.kitx_int, True.intro, fun z => nomatch z⟩
  | str y => cases (show x = V.str y from d); obtain ⟨k, q⟩ := (show ∃ k, u = Value.str y k from rx); cases q; exact ⟨_, PySem.W.kitx_str, True.intro, fun z => nomatch z⟩
  | lst ts =>
    obtain ⟨a, xs, e, h, _⟩ := d
    subst e
    cases (show u = Value.ref a from rx)
    obtain ⟨_, _, n, _, h1⟩ := (show ObjOk X.prog X.w H s.heap a (.lst xs) from I.hok a _ h)
    exact ⟨_, PySem.W.kitx_list, ⟨_, h1, rfl⟩, fun z => nomatch z⟩
  | tup ts =>
    obtain ⟨a, xs, e, h, _⟩ := d
    subst e
    cases (show u = Value.ref a from rx)
    obtain ⟨_, _, _, p⟩ := (show ObjOk X.prog X.w H s.heap a (.tup xs) from I.hok a _ h)
    obtain ⟨o, h1, h2, _⟩ := p
    exact ⟨_, PySem.W.kitx_tuple, ⟨o, h1, h2⟩, fun z => nomatch z⟩
  | emp =>
    obtain ⟨a, e, h⟩ := d
    subst e
    cases (show u = Value.ref a from rx)
    obtain ⟨_, _, vs, _, p⟩ := (show ObjOk X.prog X.w H s.heap a (.dK []) from I.hok a _ h)
    obtain ⟨o, es, ep, h1, h2, _⟩ := p
    exact ⟨_, PySem.W.kitx_dict, ⟨o, h1, h2.1⟩, fun z => nomatch z⟩
  | dic =>
    obtain ⟨a, kvs, e, h⟩ := d
    subst e
    cases (show u = Value.ref a from rx)
    obtain ⟨_, _, vs, _, p⟩ := (show ObjOk X.prog X.w H s.heap a (.dK kvs) from I.hok a _ h)
    obtain ⟨o, es, ep, h1, h2, _⟩ := p
    exact ⟨_, PySem.W.kitx_dict, ⟨o, h1, h2.1⟩, fun z => nomatch z⟩
theorem vals_tys : ∀ {Ts : List String} {us : List Value}, Vals (Ts.map V.ty) us → us = Ts.map Value.type
  | [], _, .nil => rfl
  | T :: Ts, _, .cons r t => by rw [vals_tys t, show _ = Value.type T from r]; rfl
theorem call_isinstT : CallR X (.builtin "isinstance") (fun xs H Q => ∃ (x : V) (p : Addr) (t : Th) (Ts : List String) (b : Bool), xs = [x, .ref p] ∧ H p = some (.tup (Ts.map V.ty)) ∧ Den H t x ∧ PySem.W.kitAny X.K (tyTh t) (Ts.map Value.type) = some b ∧ Q (.bl b) H) := by
  intro pins s σ H xs us Q I r h
  obtain ⟨x, p, t, Ts, b, rfl, hp, d, e, q⟩ := h
  obtain ⟨u, w', rfl, r1, r2⟩ := vals2 r
  cases r2
  obtain ⟨HP, Z, hz, hx⟩ := kitx_ty I r1 d
  obtain ⟨_, its, rv, tp⟩ := (show ObjOk X.prog X.w H s.heap p (.tup (Ts.map V.ty)) from I.hok p _ hp)
  have ei := vals_tys rv
  subst ei
  obtain ⟨⟨cls, dd, data, sl⟩, h1, h2, n, h3⟩ := tp
  simp only at h2 h3
  subst h2 h3
  exact PySem.W.kia_tup Z I.kIn hz h1 e hx fun tk => ⟨.bl b, H, I.tok _, rfl, q⟩
theorem call_isinstD : CallR X (.builtin "isinstance") (fun xs H Q => ∃ x t T b, xs = [x, .ty T] ∧ Den H t x ∧ PySem.W.kitOne X.K (tyTh t) (.type T) = some b ∧ Q (.bl b) H) := by
  intro pins s σ H xs us Q I r h
  obtain ⟨x, t, T, b, e, d, k, q⟩ := h
  exact call_isinst pins s σ H xs us Q I r ⟨x, tyTh t, T, b, e, d.ty, k, q⟩
theorem range_all_true (n : Nat) : ((List.range n).all fun _ => true) = true := List.all_eq_true.mpr fun _ _ => rfl
theorem dict_nil_any {P P' : Program} {w w' : World} {h : Heap} {a : Addr} (d : h.DictOf (mixKind P w) a []) : h.DictOf (mixKind P' w') a [] := by
  obtain ⟨o, es, ep, h1, h2, h3, h4, h5, h6⟩ := d
  have e : es = #[] := by
    have hl : es.toList.length = 0 := by
      have := h5.length
      simpa using this
    cases es with | mk l => cases l with
      | nil => rfl
      | cons x r => simp at hl
  subst e
  exact ⟨o, #[], ep, h1, h2, h3, (by intro z hz; simp at hz), .nil, List.nodup_nil⟩
mutual
noncomputable def depT : Th → Nat
  | .lst ts => depTs ts + 1
  | .tup ts => depTs ts + 1
  | .emp => 1
  | .dic => cLine + 1
  | .non | .bl _ | .int _ | .str _ => 0
noncomputable def depTs : List Th → Nat
  | [] => 0
  | t :: ts => max (depT t) (depTs ts)
end
theorem depTs_mem : ∀ {ts : List Th} {i : Nat} {t : Th}, ts[i]? = some t → depT t ≤ depTs ts
  | _ :: _, 0, _, h => by
    rw [List.getElem?_cons_zero] at h
    cases h
    exact Nat.le_max_left _ _
  | _ :: _, _ + 1, _, h => by
    rw [List.getElem?_cons_succ] at h
    exact Nat.le_trans (depTs_mem h) (Nat.le_max_right _ _)
theorem dens_at {H : Hp} {ts : List Th} {xs ys : List V} {us ws : List Value} (d1 : Dens H ts xs) (d2 : Dens H ts ys) (r1 : Vals xs us) (r2 : Vals ys ws) (j : Nat) (h1 : j < us.toArray.size) (h2 : j < ws.toArray.size) :
    ∃ t v1 v2, ts[j]? = some t ∧ Den H t v1 ∧ Den H t v2 ∧ RelV v1 us.toArray[j] ∧ RelV v2 ws.toArray[j] := by
  have hl : j < ts.length := by
    rw [← d1.len, r1.length]
    simpa using h1
  obtain ⟨v1, e1, q1⟩ := d1.get (List.getElem?_eq_getElem hl)
  obtain ⟨v2, e2, q2⟩ := d2.get (List.getElem?_eq_getElem hl)
  obtain ⟨u1, f1, g1⟩ := r1.get e1
  obtain ⟨u2, f2, g2⟩ := r2.get e2
  have k1 : us.toArray[j] = u1 := by
    have : us[j]? = some us.toArray[j] := by simp
    rw [this] at f1; exact Option.some.inj f1
  have k2 : ws.toArray[j] = u2 := by
    have : ws[j]? = some ws.toArray[j] := by simp
    rw [this] at f2; exact Option.some.inj f2
  exact ⟨ts[j], v1, v2, List.getElem?_eq_getElem hl, q1, q2, by rw [k1]; exact g1, by rw [k2]; exact g2⟩
theorem eqDen {P : Program} {w : World} {H : Hp} {s : Shared} (hok : HOk P w H s.heap) : ∀ (n : Nat) (A : Around) (t : Th) (v1 v2 : V) (u1 u2 : Value), depT t ≤ n → A.units + n < cLine → Den H t v1 → Den H t v2 → RelV v1 u1 → RelV v2 u2 → SeqAt.EqAt A s u1 u2 true
  | n, A, .non, v1, v2, u1, u2, _, _, d1, d2, r1, r2 => by
    cases (show v1 = V.non from d1); cases (show v2 = V.non from d2)
    cases (show u1 = Value.none from r1); cases (show u2 = Value.none from r2)
    exact SeqAt.EqAt.same _
  | n, A, .bl b, v1, v2, u1, u2, _, _, d1, d2, r1, r2 => by
    cases (show v1 = V.bl b from d1); cases (show v2 = V.bl b from d2)
    cases (show u1 = Value.bool b from r1); cases (show u2 = Value.bool b from r2)
    exact SeqAt.EqAt.same _
  | n, A, .int i, v1, v2, u1, u2, _, _, d1, d2, r1, r2 => by
    cases (show v1 = V.int i from d1); cases (show v2 = V.int i from d2)
    obtain ⟨k1, rfl⟩ := (show ∃ k, u1 = Value.int i k from r1)
    obtain ⟨k2, rfl⟩ := (show ∃ k, u2 = Value.int i k from r2)
    have h := SeqAt.EqAt.int_int (A := A) (s := s) i k1 i k2
    rw [beq_self_eq_true] at h
    exact h
  | n, A, .str x, v1, v2, u1, u2, _, _, d1, d2, r1, r2 => by
    cases (show v1 = V.str x from d1); cases (show v2 = V.str x from d2)
    obtain ⟨k1, rfl⟩ := (show ∃ k, u1 = Value.str x k from r1)
    obtain ⟨k2, rfl⟩ := (show ∃ k, u2 = Value.str x k from r2)
    have h := SeqAt.EqAt.str_str (A := A) (s := s) x k1 x k2
    rw [beq_self_eq_true] at h
    exact h
  | 0, A, .lst ts, v1, v2, u1, u2, hd, _, d1, d2, r1, r2 => absurd hd (by simp [depT])
  | 0, A, .tup ts, v1, v2, u1, u2, hd, _, d1, d2, r1, r2 => absurd hd (by simp [depT])
  | 0, A, .emp, v1, v2, u1, u2, hd, _, d1, d2, r1, r2 => absurd hd (by simp [depT])
  | 0, A, .dic, v1, v2, u1, u2, hd, _, d1, d2, r1, r2 => absurd hd (by simp [depT])
  | n + 1, A, .dic, v1, v2, u1, u2, hd, hu, d1, d2, r1, r2 => absurd (show cLine + 1 ≤ n + 1 from hd) (by omega)
  | n + 1, A, .lst ts, v1, v2, u1, u2, hd, hu, d1, d2, r1, r2 => by
    obtain ⟨a1, xs, rfl, h1, e1⟩ := d1
    obtain ⟨a2, ys, rfl, h2, e2⟩ := d2
    cases (show u1 = Value.ref a1 from r1); cases (show u2 = Value.ref a2 from r2)
    by_cases hne : a1 = a2
    · subst hne; exact SeqAt.EqAt.same _
    obtain ⟨_, us, n1, q1, g1⟩ := (show ObjOk P w H s.heap a1 (.lst xs) from hok a1 _ h1)
    obtain ⟨_, ws, n2, q2, g2⟩ := (show ObjOk P w H s.heap a2 (.lst ys) from hok a2 _ h2)
    have hsz : us.toArray.size = ws.toArray.size := by
      rw [List.size_toArray, List.size_toArray, ← q1.length, ← q2.length, e1.len, e2.len]
    have hd' : depTs ts + 1 ≤ n + 1 := hd
    have h := SeqAt.RcAt.lists (A := A) (s := s) (e := fun _ => true) (⟨_, g1, rfl, _, rfl⟩ : s.heap.IsList a1 us.toArray) (⟨_, g2, rfl, _, rfl⟩ : s.heap.IsList a2 ws.toArray) hsz (by omega) fun j j1 j2 => by
      obtain ⟨t, w1, w2, ht, p1, p2, s1, s2⟩ := dens_at e1 e2 q1 q2 j j1 j2
      exact eqDen hok n A.in1 t w1 w2 _ _ (by have := depTs_mem ht; omega) (by show A.units + 1 + n < cLine; omega) p1 p2 s1 s2
    rw [range_all_true] at h
    exact SeqAt.EqAt.of_refs hne h
  | n + 1, A, .tup ts, v1, v2, u1, u2, hd, hu, d1, d2, r1, r2 => by
    obtain ⟨a1, xs, rfl, h1, e1⟩ := d1
    obtain ⟨a2, ys, rfl, h2, e2⟩ := d2
    cases (show u1 = Value.ref a1 from r1); cases (show u2 = Value.ref a2 from r2)
    by_cases hne : a1 = a2
    · subst hne; exact SeqAt.EqAt.same _
    obtain ⟨_, us, q1, g1⟩ := (show ObjOk P w H s.heap a1 (.tup xs) from hok a1 _ h1)
    obtain ⟨_, ws, q2, g2⟩ := (show ObjOk P w H s.heap a2 (.tup ys) from hok a2 _ h2)
    have hsz : us.toArray.size = ws.toArray.size := by
      rw [List.size_toArray, List.size_toArray, ← q1.length, ← q2.length, e1.len, e2.len]
    have hd' : depTs ts + 1 ≤ n + 1 := hd
    have h := SeqAt.RcAt.tuples (A := A) (s := s) (e := fun _ => true) (show s.heap.IsTuple a1 us.toArray from g1) (show s.heap.IsTuple a2 ws.toArray from g2) (by omega) fun j j1 j2 => by
      obtain ⟨t, w1, w2, ht, p1, p2, s1, s2⟩ := dens_at e1 e2 q1 q2 j j1 j2
      exact eqDen hok n A.in1 t w1 w2 _ _ (by have := depTs_mem ht; omega) (by show A.units + 1 + n < cLine; omega) p1 p2 s1 s2
    rw [range_all_true, hsz, beq_self_eq_true, Bool.and_self] at h
    exact SeqAt.EqAt.of_refs hne h
  | n + 1, A, .emp, v1, v2, u1, u2, hd, hu, d1, d2, r1, r2 => by
    obtain ⟨a1, rfl, h1⟩ := d1
    obtain ⟨a2, rfl, h2⟩ := d2
    cases (show u1 = Value.ref a1 from r1); cases (show u2 = Value.ref a2 from r2)
    by_cases hne : a1 = a2
    · subst hne; exact SeqAt.EqAt.same _
    obtain ⟨_, m1, vs1, q1, g1⟩ := (show ObjOk P w H s.heap a1 (.dK []) from hok a1 _ h1)
    obtain ⟨_, m2, vs2, q2, g2⟩ := (show ObjOk P w H s.heap a2 (.dK []) from hok a2 _ h2)
    cases q1
    cases q2
    refine SeqAt.EqAt.of_refs hne fun prog w' E Q hq => ?_
    exact PySem.W.keq_eq (K := Key) (knd := mixKind prog w') (r := true) m1 m2 (dict_nil_any g1) (dict_nil_any g2) (by omega) (fun _ => .nil) hq
theorem op_neD (hu : X.A.units + 64 < cLine) : OpR X (compareOp .NotEq) (fun x y H Q => ∃ t, Den H t x ∧ Den H t y ∧ depT t ≤ 60 ∧ Q (.bl false) H) := by
  intro pins s σ H x y v u Q I rx ry h
  obtain ⟨t, d1, d2, hd, q⟩ := h
  have scal_case : scal x y = true → x = y → wpAny (model X.prog X.w) X.A (compareOp .NotEq v u) (EP X pins σ Q) X.xe s := fun h1 h2 =>
    op_ne pins s σ H x y v u Q I rx ry ⟨h1, by rw [decide_eq_true h2]; exact q⟩
  cases t with
  | non => cases (show x = V.non from d1); cases (show y = V.non from d2); exact scal_case rfl rfl
  | bl b => cases (show x = V.bl b from d1); cases (show y = V.bl b from d2); exact scal_case rfl rfl
  | int i => cases (show x = V.int i from d1); cases (show y = V.int i from d2); exact scal_case rfl rfl
  | str z => cases (show x = V.str z from d1); cases (show y = V.str z from d2); exact scal_case rfl rfl
  | lst ts =>
    obtain ⟨a1, xs, rfl, h1, e1⟩ := d1
    obtain ⟨a2, ys, rfl, h2, e2⟩ := d2
    cases (show v = Value.ref a1 from rx); cases (show u = Value.ref a2 from ry)
    obtain ⟨_, us, n1, q1, g1⟩ := (show ObjOk X.prog X.w H s.heap a1 (.lst xs) from I.hok a1 _ h1)
    obtain ⟨_, ws, n2, q2, g2⟩ := (show ObjOk X.prog X.w H s.heap a2 (.lst ys) from I.hok a2 _ h2)
    have hsz : us.toArray.size = ws.toArray.size := by
      rw [List.size_toArray, List.size_toArray, ← q1.length, ← q2.length, e1.len, e2.len]
    have hd' : depTs ts + 1 ≤ 60 := hd
    have h := SeqAt.RcNeAt.lists (A := X.A) (s := s) (e := fun _ => true) (⟨_, g1, rfl, _, rfl⟩ : s.heap.IsList a1 us.toArray) (⟨_, g2, rfl, _, rfl⟩ : s.heap.IsList a2 ws.toArray) hsz (by omega) fun j j1 j2 => by
      obtain ⟨t, w1, w2, ht, p1, p2, s1, s2⟩ := dens_at e1 e2 q1 q2 j j1 j2
      exact eqDen I.hok 60 X.A.in1 t w1 w2 _ _ (by have := depTs_mem ht; omega) (by show X.A.units + 1 + 60 < cLine; omega) p1 p2 s1 s2
    rw [range_all_true] at h
    exact h X.prog X.w _ _ ⟨.bl false, H, I, rfl, q⟩
  | tup ts =>
    obtain ⟨a1, xs, rfl, h1, e1⟩ := d1
    obtain ⟨a2, ys, rfl, h2, e2⟩ := d2
    cases (show v = Value.ref a1 from rx); cases (show u = Value.ref a2 from ry)
    obtain ⟨_, us, q1, g1⟩ := (show ObjOk X.prog X.w H s.heap a1 (.tup xs) from I.hok a1 _ h1)
    obtain ⟨_, ws, q2, g2⟩ := (show ObjOk X.prog X.w H s.heap a2 (.tup ys) from I.hok a2 _ h2)
    have hsz : us.toArray.size = ws.toArray.size := by
      rw [List.size_toArray, List.size_toArray, ← q1.length, ← q2.length, e1.len, e2.len]
    have hd' : depTs ts + 1 ≤ 60 := hd
    have h := SeqAt.RcNeAt.tuples (A := X.A) (s := s) (e := fun _ => true) (show s.heap.IsTuple a1 us.toArray from g1) (show s.heap.IsTuple a2 ws.toArray from g2) (by omega) fun j j1 j2 => by
      obtain ⟨t, w1, w2, ht, p1, p2, s1, s2⟩ := dens_at e1 e2 q1 q2 j j1 j2
      exact eqDen I.hok 60 X.A.in1 t w1 w2 _ _ (by have := depTs_mem ht; omega) (by show X.A.units + 1 + 60 < cLine; omega) p1 p2 s1 s2
    rw [range_all_true, hsz, beq_self_eq_true, Bool.and_self] at h
    exact h X.prog X.w _ _ ⟨.bl false, H, I, rfl, q⟩
  | emp =>
    obtain ⟨a1, rfl, h1⟩ := d1
    obtain ⟨a2, rfl, h2⟩ := d2
    cases (show v = Value.ref a1 from rx); cases (show u = Value.ref a2 from ry)
    obtain ⟨_, m1, vs1, q1, g1⟩ := (show ObjOk X.prog X.w H s.heap a1 (.dK []) from I.hok a1 _ h1)
    obtain ⟨_, m2, vs2, q2, g2⟩ := (show ObjOk X.prog X.w H s.heap a2 (.dK []) from I.hok a2 _ h2)
    cases q1
    cases q2
    exact PySem.W.keq_ne (K := Key) (knd := mixKind X.prog X.w) (r := true) m1 m2 g1 g2 (by omega) (fun _ => .nil) ⟨.bl false, H, I, rfl, q⟩
  | dic => exact absurd (show cLine + 1 ≤ 60 from hd) (by omega)
end
end L2
set_option maxHeartbeats 4000000
namespace L2
open PySem PySem.Spec PyProof.Rows
theorem ObjOk.there {P : Program} {w : World} {H : Hp} {h : Heap} {a : Addr} {o : HO} (k : ObjOk P w H h a o) : ∃ ob, h.get? a = some ob := by
  cases o with
  | lst _ => obtain ⟨_, _, _, _, e⟩ := k; exact ⟨_, e⟩
  | tup _ => obtain ⟨_, _, _, o, e, _⟩ := k; exact ⟨o, e⟩
  | dK _ => obtain ⟨_, _, _, _, o, _, _, e, _⟩ := k; exact ⟨o, e⟩
  | dT _ => obtain ⟨_, _, _, _, o, _, _, e, _⟩ := k; exact ⟨o, e⟩
  | set _ _ => obtain ⟨o, _, _, _, e, _⟩ := k; exact ⟨o, e⟩
  | ins _ _ _ => obtain ⟨_, _, _, e, _⟩ := k; exact ⟨_, e⟩
  | own _ => obtain ⟨o, e⟩ := k; exact ⟨o, e⟩
  | xd _ => obtain ⟨_, ⟨o, _, _, e, _⟩, _⟩ := k; exact ⟨o, e⟩
  | rng _ _ => obtain ⟨_, _, _, e⟩ := k; exact ⟨_, e⟩
  | frz _ _ => obtain ⟨e, _⟩ := k; exact ⟨_, e⟩
  | tbl _ => exact ⟨_, k⟩
  | met _ _ => exact ⟨_, k⟩
  | ext _ => obtain ⟨_, ⟨o, e⟩, _⟩ := k; exact ⟨o, e⟩
noncomputable def Fly (l : List Env) (h0 : Heap) (H' : Hp) (e : Addr) (cls : Value) (h : Heap) : Prop :=
  ∃ (B : Heap) (t : Addr), Heap.FlyingW B l e cls (.ref t) h ∧ h0.get? e = none ∧ H' e = none ∧
    ∀ b o, h.get? b = some o → ((∃ o', h0.get? b = some o') ∨ ∃ u, H' b = some u) → b ∉ frs l → B.get? b = some o
noncomputable def CXX (P : Program) (w : World) : CXT := fun outer H s E e s' =>
  ∃ a cls H', e = .ref a ∧ s'.os = s.os ∧ AllBare s'.gens ∧ Un (frs outer) [] H H' s.heap s'.heap ∧ HOk P w H' s'.heap ∧ Fly outer s.heap H' a cls s'.heap ∧ E cls none H'
theorem cxx_never {P : Program} {w : World} {H : Hp} {s : Shared} {e : Value} {s' : Shared} {l : List Env} (h : CXX P w l H s (fun _ _ _ => False) e s') : False := by
  obtain ⟨_, _, _, _, _, _, _, _, _, q⟩ := h
  exact q
theorem fly_keeps {P : Program} {w : World} {fs : List Addr} {l : List Env} {base B h0 h h5 : Heap} {H H' : Hp} (un : Un fs [] H H' h0 h) (hok : HOk P w H' h)
    (kB : ∀ b o, h.get? b = some o → ((∃ o', h0.get? b = some o') ∨ ∃ u, H' b = some u) → b ∉ frs l → B.get? b = some o)
    (ff : h.FunFrames base l) (hfs : ∀ b ∈ fs, b ∈ frs l) (hl : ∀ b ∈ frs l, b ∉ fs → h0.get? b = none) (hu : ∀ b ∈ frs l, H' b = none)
    (st : B.StaysIn h5) (up : h.UpToSlots h5) : Un fs [] H H' h0 h5 ∧ HOk P w H' h5 := by
  have kk : ∀ b o, h.get? b = some o → (∃ o', h0.get? b = some o') → b ∉ fs → h5.get? b = some o := fun b o e1 ⟨o', e0⟩ hb => by
    refine st b o (kB b o e1 (.inl ⟨o', e0⟩) fun z => ?_)
    rw [hl b z hb] at e0; cases e0
  have ks : ∀ b o, h.get? b = some o → b ∈ fs → ∃ sl, h5.get? b = some { o with slots := sl } := fun b o e1 hb => by
    obtain ⟨_, o2, e2, nf⟩ := ff.mem (hfs b hb)
    rw [e1] at e2; cases e2
    exact up b o e1 nf
  refine ⟨⟨fun b o e n hb hx => kk b o (un.keep b o e n hb hx) ⟨o, e⟩ hb, fun b o e n hb hx => ?_, un.free, fun b o e hx => ?_, un.tups, un.frzs, un.tbls⟩, fun a o e => ?_⟩
  · obtain ⟨s1, e1⟩ := un.slot b o e n hb hx
    obtain ⟨s2, e2⟩ := ks b _ e1 hb
    exact ⟨s2, e2⟩
  · obtain ⟨o', e1⟩ := un.there b o e hx
    by_cases hb : b ∈ fs
    · obtain ⟨s2, e2⟩ := ks b _ e1 hb
      exact ⟨_, e2⟩
    · exact ⟨o', kk b o' e1 ⟨o, e⟩ hb⟩
  · have tr : ∀ b u v, H' b = some u → h.get? b = some v → h5.get? b = some v := fun b u v q e1 => st b v (kB b v e1 (.inr ⟨u, q⟩) fun z => by rw [hu b z] at q; cases q)
    refine (hok a o e).stay (fun b v hb q => ?_) (fun _ q => q) fun _ _ q => q
    rcases hb with z | z
    · subst z; exact tr b o v e q
    · exact tr b _ v z q
structure DefCx (X : Cx) : Prop where
  st : X.stack = X.env :: X.outer
  fr : X.env.frame = some X.env.locals
  ex : X.ex = []
section
variable {X : Cx} {pins : List (Addr × Obj)} {σ : St} {H : Hp} {s : Shared} {E : XK} {M : Model}
theorem Inv.gone (I : Inv X pins σ H s) (dx : DefCx X) {e : Addr} (n : s.heap.get? e = none) : X.s₀.heap.get? e = none ∧ H e = none := by
  constructor
  · cases q : X.s₀.heap.get? e with
    | none => rfl
    | some o =>
      obtain ⟨o', z⟩ := I.base.there e o q (by rw [dx.ex]; simp)
      rw [n] at z; cases z
  · cases q : H e with
    | none => rfl
    | some u =>
      obtain ⟨o', z⟩ := (I.hok e u q).there
      rw [n] at z; cases z
theorem Inv.notMine (I : Inv X pins σ H s) {b : Addr} {o : Obj} (e : X.s₀.heap.get? b = some o) : b ≠ X.env.locals := Nat.ne_of_lt (Nat.lt_of_lt_of_le (Heap.lt_size e) I.ok.above)
theorem fly_out (dx : DefCx X) (I : Inv X pins σ H s) {B h' : Heap} {e t : Addr} {cls : Value}
    (kB : ∀ b o, s.heap.get? b = some o → ((∃ o', X.s₀.heap.get? b = some o') ∨ ∃ u, H b = some u) → b ∉ frs X.stack → B.get? b = some o)
    (fw : Heap.FlyingW B X.outer e cls (.ref t) h') (up : s.heap.UpToSlots h') (ne : X.s₀.heap.get? e = none) (hn : H e = none) (q : E cls none H) :
    CXX X.prog X.w X.outer X.H₀ X.s₀ E (.ref e) { s with heap := h' } := by
  have un0 : Un X.fs [] X.H₀ H X.s₀.heap s.heap := by have := I.base; rw [dx.ex] at this; exact this
  have sub : ∀ b ∈ X.fs, b ∈ frs X.stack := fun b hb => by
    rw [dx.st]; unfold frs; rw [List.filterMap_cons, dx.fr]; exact List.mem_cons_of_mem _ hb
  have hl : ∀ b ∈ frs X.stack, b ∉ X.fs → X.s₀.heap.get? b = none := fun b hb hn => by
    rcases List.mem_cons.mp (I.stkSub b hb) with z | z
    · cases q : X.s₀.heap.get? b with
      | none => rfl
      | some o => exact absurd z (I.notMine q)
    · exact absurd z hn
  obtain ⟨un, hok⟩ := fly_keeps (h5 := h') un0 I.hok kB I.stack sub hl I.stkFree fw.1 up
  refine ⟨e, cls, H, rfl, I.os, I.bare, un, hok, ⟨B, t, fw, ne, hn, fun b o e1 hz hb => ?_⟩, q⟩
  have there : ∃ o2, s.heap.get? b = some o2 := by
    rcases hz with ⟨o', z⟩ | ⟨u, z⟩
    · exact un0.there b o' z (by simp)
    · exact (I.hok b u z).there
  have nst : b ∉ frs X.stack := fun z => by
    rcases List.mem_cons.mp (I.stkSub b z) with y | y
    · rcases hz with ⟨o', q⟩ | ⟨u, q⟩
      · exact I.notMine q y
      · rw [I.stkFree b z] at q; cases q
    · exact hb y
  obtain ⟨o2, e2⟩ := there
  have e3 := kB b o2 e2 hz nst
  have e4 := fw.1 b o2 e3
  have e1' : h'.get? b = some o := e1
  rw [e1'] at e4
  cases e4
  exact e3
theorem leave_made (dx : DefCx X) (I : Inv X pins σ H s) {h1 : Heap} {e : Addr} {cls : Value} {args : List Value} (mk : Heap.MadeExcOf s.heap h1 e cls args) (q : E cls none H) {E' : Value → Shared → Prop} :
    wpAny M X.A (leaving X.env (.ref e)) (fun _ s2 => CXX X.prog X.w X.outer X.H₀ X.s₀ E (.ref e) s2) E' { s with heap := h1 } := by
  have hin : ∀ env ∈ X.stack, ∀ b, env.frame = some b → b ∈ frs X.stack := fun env he b hb => List.mem_filterMap.mpr ⟨env, he, hb⟩
  have ff := PySem.W.funFrames_hide I.stack hin
  rw [dx.st] at ff
  obtain ⟨n1, n2⟩ := I.gone dx mk.new
  refine wpAny_leaves_madeW (base := PySem.W.hideAll s.heap (frs (X.env :: X.outer))) (h := s.heap) (by rw [I.ok.frames, dx.st]) dx.fr (fun b o z => PySem.W.of_hideAll _ z) ff mk fun h' t x1 _ _ x4 => ?_
  exact fly_out dx I (fun b o e1 _ hb => PySem.W.hideAll_get _ e1 (by rw [← dx.st]; exact hb)) x1 ((Heap.UpToSlots.of_keeps mk.keeps).trans x4) n1 n2 q
end
end L2
set_option maxHeartbeats 4000000
namespace L2
open PySem PySem.Spec PyProof.Rows
abbrev vbm : List Value := [.type "ValueError", .type "Exception", .type "BaseException", .type "object"]
theorem cls_of {K : PySem.W.Frag} {h : Heap} {C : Addr} {nid : String} {bmB : List Value} (kin : K.In h) (z : PySem.W.excIn K C bmB nid = true) :
    ∃ (tl : List Value) (N : Addr) (nm qn : Str) (bs : List Value) (hd : Bool) (sn : List Str) (su : List Value) (ab : Bool) (co : Option Bool) (dd : Option Addr) (k0 k1 k2 k3 k5 : Option Value) (mN : Str → Option Value),
      h.get? C = some (excClassObj nm qn C N bs tl hd sn su ab co dd k0 k1 k2 k3 k5 nid) ∧ h.Ns N mN ∧ mN "__init__" = none ∧ OwnTail h bmB tl := by
  unfold PySem.W.excIn at z
  split at z
  · rename_i d0 c0 slt lk
    split at z
    · rename_i C2 tl a0 a1 a2 a3 nn a5 em es
      simp only [Bool.and_eq_true, beq_iff_eq, Bool.not_eq_true'] at z
      obtain ⟨⟨⟨⟨⟨y1, y2⟩, y3⟩, y4⟩, y5⟩, y6⟩ := z
      subst y1 y2
      obtain ⟨nm, bs, mr, ns, qn, hd, sn, su, ab, co, de⟩ := c0
      dsimp only at em y3 y5 y6
      subst em y3
      have sz : slt = #[a0, a1, a2, a3, some (.builtin nn), a5] := by
        cases slt with | mk l => exact congrArg Array.mk es
      subst sz
      exact ⟨tl, ns, nm, qn, bs, hd, sn, su, ab, co, d0, a0, a1, a2, a3, a5, _, kin _ _ lk, .of_isNs (PySem.W.isNs_of_in kin y5), PySem.W.nsMap_none_of_in kin y5 y6, PySem.W.tail_of_in kin y4⟩
    · cases z
  · cases z
structure XCls (K : PySem.W.Frag) (mg : Str → Option Value) (x : Str) (C : Addr) : Prop where
  at_ : mg x = some (.ref C)
  ok : PySem.W.excIn K C vbm "ValueError.__new__" = true
section
variable {X : Cx} {E : XK} {x : Str} {C : Addr} {np cpos pos : Pos} {e : Expr} {es : List Expr} {t : TA}
noncomputable def Reach (X : Cx) (E : XK) : Prop := ∀ (pins : List (Addr × Obj)) (σ : St) (H : Hp) (s : Shared) (h1 : Heap) (e : Addr) (cls : Value) (args : List Value), Inv X pins σ H s → Heap.MadeExcOf s.heap h1 e cls args → E cls none H → X.xe (.ref e) { s with heap := h1 }
noncomputable def tRaise (C : Addr) (E : XK) (t : TA) : TS := fun _ σ H => t σ H fun vs H1 => vs.length ≤ sizeLine ∧ E (.ref C) none H1
theorem ps_raise (hr : Reach X E) (hc : X.calm = true) (xc : XCls X.K X.mg x C) (hg : Gl X x) (ha : PA X (e :: es) t)
    (hdb : (x == ("__debug__" : Str)) = false := by decide) (he : starEach (e :: es) X.env = (false, eval e X.env) :: starEach es X.env := by rfl) (hpl : (backTo cpos (starEach es X.env)).any (·.1) = false := by rfl) :
    PS X (.Raise (some (.Call (.Name x np) (e :: es) [] cpos)) none pos) (tRaise C E t) := by
  intro pins s σ H D I h
  obtain ⟨tl, N, nm, qn, bs, hd, sn, su, ab, co, dd, k0, k1, k2, k3, k5, mN, hC, hN, hni, T⟩ := cls_of I.mod.kin xc.ok
  refine wpAny_Raise_call_subT (C := C) (nm := nm) (q := qn) (N := N) (bs := bs) (bm := tl) (hdct := hd) (sn := sn) (sub := su) (ab := ab) (col := co) (dd := dd) (k0 := k0) (k1 := k1) (k2 := k2) (k3 := k3) (k5 := k5)
    PySem.F.excBase_ValueError (mN := mN) (T.hasType PySem.F.excBase_ValueError.hasBase) (I.ok.hd hc) (by rw [he]; show (false || _) = false; exact hpl) hni (ld_glob I hg xc.at_ ⟨rfl, ?_⟩ hdb)
  have h2 := ha cpos pins s σ H _ I h
  rw [he] at h2 ⊢
  exact Calls.evalArgs_plain (wpAny_mono h2 (fun us s2 ⟨vs, H1, I1, rv, hl, q⟩ => ⟨rfl, by rw [← rv.length]; exact hl, I1.bk _ _ hC, hN.keeps I1.bk, T.keeps I1.bk, fun h' e mk => hr pins σ H1 s2 h' e _ us I1 mk q⟩) fun _ _ y => y)
end
section
variable {P : Program} {w : World} {K : PySem.W.Frag} {mg : Str → Option Value} {base : Heap} {N : List Str} {qual : Str} {scope : Scope} {f : Addr} {cd : Value} {A : Around} {outer : List Env} {s : Shared} {H : Hp} {E : XK}
theorem dxOf {CX : CXT} : DefCx (cxOf CX P w K mg base N qual scope f cd A outer s H E) := ⟨rfl, rfl, rfl⟩
theorem reachOf : Reach (cxOf (CXX P w) P w K mg base N qual scope f cd A outer s H E) E := fun _ _ _ _ _ _ _ _ I mk q => leave_made dxOf I mk q
theorem Fun.okX {x : Str} {st : Stmt} {fd : FuncData} {ps : List Str} {k : Nat} {sp : Sp} (F : Fun K x qual st f fd) (S : FnScope N ps (defScope st)) (len : ∀ vs H Q E, sp vs H Q E → vs.length = ps.length)
    (hbody : ∀ (cdv : Value) (A : Around) (outer : List Env) (s : Shared) (H : Hp) (vs : List V) (Q : VK) (E : XK), Room k (A.deeper (envOfC qual (defScope st) s.heap.objs.size f cdv)) → sp vs H Q E →
      ∃ t, PSs (cxOf (CXX P w) P w K mg base N qual (defScope st) f cdv A outer s H E) (defBody st) t ∧ t { nx := fun _ H' => Q .non H', rt := Q } (start N vs) H) : FnOk P w K mg base (CXX P w) (k + 1) f fd ps sp := by
  obtain ⟨oc, od, kV, doc, pm, an, cdv, ct, osl, rfl, lk, hcd⟩ := F.ex
  exact fn_of lk hcd S len fun A outer s H vs Q E hr hsp => hbody cdv A outer s H vs Q E hr hsp
end
theorem FnOk.calm {P : Program} {w : World} {K : PySem.W.Frag} {mg : Str → Option Value} {base : Heap} {CX : CXT} {k : Nat} {f : Addr} {fd : FuncData} {ps : List Str} {sp : Sp} (F : FnOk P w K mg base CX0 k f fd ps sp) : FnOk P w K mg base CX k f fd ps sp :=
  ⟨F.len, fun A outer s H args us vs Q E hr he hb hv hs => codeAny_mono (F.run A outer s H args us vs Q E hr he hb hv hs) fun r s' h => by
    cases r with
    | ok fl => cases fl <;> exact h
    | error e => exact False.elim h⟩
section
variable {X : Cx}
theorem PS.nox {st : Stmt} {t : TS} (h : PS X.nox st t) : PS X st t := fun pins s σ H D I hw =>
  wpAny_mono (h pins s σ H D (I.wish _) hw) (fun _ _ q => q.unwish) fun _ _ z => z.elim
end
end L2
set_option maxHeartbeats 4000000
namespace L2
open PySem PySem.Spec PyProof.Rows
noncomputable abbrev Cx.held (X : Cx) (e : Addr) (oe : Obj) : Cx := { X with A := X.A.mark (some (.ref e)), calm := false, pn := (e, oe) :: X.pn, xe := fun _ _ => False }
section
variable {X : Cx} {pins pins' : List (Addr × Obj)} {σ : St} {H : Hp} {s : Shared} {xe : Value → Shared → Prop} {e : Addr} {oe : Obj}
theorem Inv.held (I : Inv X pins σ H s) (he : s.heap.get? e = some oe) (hn : H e = none) (hL : e ≠ X.env.locals) (hf : e ∉ X.fs) (hc : ∀ v, oe.data ≠ .cell v) : Inv (X.held e oe) pins σ H s := by
  have ok := I.ok
  refine ⟨⟨ok.mod, ok.kind, ok.glob, ok.blt, ok.above, ok.inj, ok.has, ok.cab, (fun z => by cases z), ok.frames, ok.stk, ok.exf, ok.bs, ok.bsz, ok.noex, ok.exfs, ok.funs, ok.frf⟩, I.os, I.bare, I.base, I.loc, I.cell, I.free, I.freeC, fun p hp => ?_, I.hok, I.len⟩
  rcases List.mem_cons.mp hp with z | z
  · subst z; exact ⟨he, hn, hL, hf, hc⟩
  · exact I.pin p z
end
section
variable {X : Cx} {CX : CXT} {k : Nat} {f : Addr} {fd : FuncData} {ps : List Str} {sp : Sp} {dvs : List V} {ds : List Value} {E : St → XK} {x : Str} {p pos : Pos} {e : Expr} {es : List Expr} {t : TA}
end
structure Catch (K : PySem.W.Frag) (CS : Addr) : Prop where
  ty : PySem.W.typeIn K (.ref CS) = some (.type "type")
  isc : PySem.W.isClsIn K CS = true
  base : PySem.W.subIn K (.ref CS) (.type "BaseException") = some true
end L2
set_option maxHeartbeats 4000000
namespace L2
open PySem PySem.Spec PyProof.Rows
noncomputable def Bg (i : Int) : Prop := Builtin.Int.intBits i ≤ 1048576
theorem Bg.le {i j : Int} (h : Bg i) (hj : j.natAbs ≤ i.natAbs) : Bg j := intBits_le_iff.mpr (Nat.lt_of_le_of_lt hj (intBits_le_iff.mp h))
theorem Bg.zero : Bg 0 := by unfold Bg Builtin.Int.intBits; decide
open PySem.W in
theorem bg_of_lay {ns : List Int} (h : WData.layableAll [WData.list (ns.map WData.int)] = true) : ∀ i ∈ ns, Bg i := fun i hi => by
  have h1 := layableW_arg h _ (List.mem_singleton.mpr rfl)
  have h2 := layableW_item h1 (.int i) (List.mem_map.mpr ⟨i, hi, rfl⟩)
  have h3 := (layableW_iff.mp h2).2.2
  exact h3
open PySem.W in
theorem attachB {l : OpenLaw} {n : Nat} {q : Program} {loose : List Str} {XP : (Str → Option Value) → Heap → Prop} {YP : World → Heap → Prop} {d : DefRec}
    (hn : l.most = some n) (hdf : d.params.defaults = [])
    (run : ∀ (w : World) (s0 s1 : Shared) (mg mb : Str → Option Value) (fa : Addr) (o : Obj) (pm cd doc : Value) (a : Addr) (vs : List Value) (ns : List Int),
      Ground q loose [] XP w s0 mg mb s1.heap → YP w s1.heap →
      s1.heap.get? fa = some o → o.data = .func (Calls.docDef d.name d.params d.body d.scope pm cd doc) → s1.heap.CodeRec cd d.name → mg d.name = some (.ref fa) →
      s1.heap.get? a = some { cls := .type "list", data := .seq vs.toArray } → IntsAre vs ns → ns.length ≤ n → (∀ i ∈ ns, Bg i) → s1.gens = #[] →
      codeAny (model l.prog w) callerA (.call (.ref fa) ⟨[.ref a], []⟩) (fun r s' => r = .ok (.ret (.bool true)) ∧ OldK s1.heap s'.heap ∧ s'.os = s1.os ∧ AllBare s'.gens) s1) :
    WalkO q loose XP YP l.row.toRowW d [] (fun f vs => PySem.call f vs) := by
  intro w s0 s1 mg mb G Y fa o pm cd doc dV kV ho hd hcd hD hmg hg args vals as hpre hlay hrd hwl hlo
  obtain rfl : dV = .none := Dflts.none hD hdf
  obtain rfl : kV = .none := Dflts.noKw hD
  obtain ⟨a, vs, ns, rfl, rfl, hobj, hints, hlen⟩ := Att.script_of hn hpre hwl
  have hbg := bg_of_lay hlay
  refine enter_call (codeAny_mono (run w s0 s1 mg mb fa o pm cd doc a vs ns G Y ho (fd_plain hd) hcd hmg hobj hints hlen hbg hg) fun r s' hq => ?_)
  obtain ⟨e1, h2, h3, h4⟩ := hq
  subst e1
  exact ⟨.inl ⟨.bool true, .bool true, [], rfl, fun _ => rfl, .bool true, Att.post_true l _, fun _ => ⟨List.Pairwise.nil, fun _ hm => (nomatch hm)⟩⟩, h2, h3, h4⟩
theorem walk_ofB {l : PySem.W.OpenLaw} {n k : Nat} {q : Program} {loose : List Str} {XP : (Str → Option Value) → Heap → Prop} {YP : World → Heap → Prop} {d : DefRec} {K : Params → PySem.W.Frag} {CX : World → CXT} {sp : World → Sp} {x : Str}
    (hn : l.most = some n) (hn2 : n ≤ sizeLine) (hdf : d.params.defaults = []) (hr : Room k callerA)
    (hY : ∀ (w : World) (h : Heap), YP w h → (K w.params).In h)
    (F : ∀ (w : World) (mg : Str → Option Value) (fa : Addr) (h : Heap), (K w.params).In h → h.Ns mainGlobals mg → mg d.name = some (.ref fa) →
      ∃ fd : FuncData, (∀ (s : Shared) (u : Value), BindsTo s fd ⟨[u], []⟩ [(x, u)]) ∧
        ∀ base : Heap, (K w.params).In base → base.Ns mainGlobals mg → FnOk l.prog w (K w.params) mg base (CX w) k fa fd [x] (sp w))
    (hsp : ∀ (w : World) (H : Hp) (a : Addr) (ns : List Int), ns.length ≤ n → (∀ i ∈ ns, Bg i) → Only H → SqL (K w.params) H a (ns.map V.int) → sp w [.ref a] H (fun v _ => v = .bl true) fun _ _ _ => False)
    (hCX : ∀ (w : World) (H : Hp) (s : Shared) (e : Value) (s' : Shared), CX w [] H s (fun _ _ _ => False) e s' → False) :
    PySem.W.WalkO q loose XP YP l.row.toRowW d [] (fun f vs => PySem.call f vs) := by
  refine attachB hn hdf fun w s0 s1 mg mb fa o pm cd doc a vs ns G Y ho hd hcd hmg hobj hints hlen hbg hg => ?_
  have KX := hY w _ Y
  obtain ⟨fd, hb, hF⟩ := F w mg fa _ KX G.T.g hmg
  exact law_call KX G.T.g G.T.b G.T.builtins G.T.nolimit hg hobj hints (Nat.le_trans hlen hn2) hr hF hb (fun H hO hS => hsp w H a ns hlen hbg hO hS) fun H e s' => hCX w H s1 e s'
theorem Inv.big {X : Cx} {pins : List (Addr × Obj)} {σ : St} {H : Hp} {s : Shared} (I : Inv X pins σ H s) : sysModules < s.heap.objs.size := by
  have h : mainGlobals < s.heap.objs.size := (I.mod.glob.keeps I.bk).lt
  exact Nat.lt_trans (by decide) h
theorem Dens.at {H : Hp} {ts : List Th} {xs : List V} {i : Int} (d : Th) (h : Dens H ts xs) (h0 : 0 ≤ i) (h1 : i < (ts.length : Int)) : ∃ v, atI xs i = some v ∧ Den H (ts.getD i.toNat d) v := by
  have hk : i.toNat < ts.length := by omega
  have ek : i = ((i.toNat : Nat) : Int) := by omega
  obtain ⟨v, e, q⟩ := h.get (List.getElem?_eq_getElem hk)
  have z := atI_nat e
  rw [← ek] at z
  refine ⟨v, z, ?_⟩
  rw [getD_in hk]; exact q
end L2
set_option maxHeartbeats 4000000
namespace L2
open PySem PySem.Spec PyProof.Rows
section
variable {prog : Program} {w : World} {A : Around} {E : Value → Shared → Prop}
end
end L2
set_option maxHeartbeats 4000000
namespace L2
open PySem PySem.Spec PySem.W PyProof.Rows Builtin Builtin.ObjectAttr Builtin.Getset_descriptor
structure XInst (K : Frag) (C : Addr) : Prop where
  ga : findIn K (.ref C) "__getattribute__" = some (some (.builtin "BaseException.__getattribute__"))
  gt : findIn K (.ref C) "__getattr__" = some none
  cl : findIn K (.ref C) "__class__" = some (some (.builtin "object.__class__"))
  sg : specialIn K (.builtin "object.__class__") "__get__" = some (some (.builtin "getset_descriptor.__get__"))
  tk : takesIn K (.builtin "object.__class__") = some true
  ob : mroIn K C (.type "object") = some true
  be : mroIn K C (.type "BaseException") = some true
  ok : isClsIn K C = true
section
variable {prog : Program} {w : World} {A : Around} {E : Value → Shared → Prop} {K : Frag} {a C : Addr} {oe : Obj} {h : Heap} {g : Array GenState} {d : Drawn} {t : Nat} {os : OsState}
end
section
variable {X : Cx} {e : Addr} {oe : Obj}
theorem op_eqD (hu : X.A.units + 64 < cLine) : OpR X (compareOp .Eq) (fun x y H Q => ∃ t, Den H t x ∧ Den H t y ∧ depT t ≤ 60 ∧ Q (.bl true) H) := by
  intro pins s σ H x y v u Q I rx ry h
  obtain ⟨t, d1, d2, hd, q⟩ := h
  have scal_case : scal x y = true → x = y → wpAny (model X.prog X.w) X.A (compareOp .Eq v u) (EP X pins σ Q) X.xe s := fun h1 h2 =>
    op_eq pins s σ H x y v u Q I rx ry ⟨h1, by rw [decide_eq_true h2]; exact q⟩
  cases t with
  | non => cases (show x = V.non from d1); cases (show y = V.non from d2); exact scal_case rfl rfl
  | bl b => cases (show x = V.bl b from d1); cases (show y = V.bl b from d2); exact scal_case rfl rfl
  | int i => cases (show x = V.int i from d1); cases (show y = V.int i from d2); exact scal_case rfl rfl
  | str z => cases (show x = V.str z from d1); cases (show y = V.str z from d2); exact scal_case rfl rfl
  | lst ts =>
    obtain ⟨a1, xs, rfl, h1, e1⟩ := d1
    obtain ⟨a2, ys, rfl, h2, e2⟩ := d2
    cases (show v = Value.ref a1 from rx); cases (show u = Value.ref a2 from ry)
    obtain ⟨_, us, n1, q1, g1⟩ := (show ObjOk X.prog X.w H s.heap a1 (.lst xs) from I.hok a1 _ h1)
    obtain ⟨_, ws, n2, q2, g2⟩ := (show ObjOk X.prog X.w H s.heap a2 (.lst ys) from I.hok a2 _ h2)
    have hsz : us.toArray.size = ws.toArray.size := by
      rw [List.size_toArray, List.size_toArray, ← q1.length, ← q2.length, e1.len, e2.len]
    have hd' : depTs ts + 1 ≤ 60 := hd
    have h := SeqAt.RcAt.lists (A := X.A) (s := s) (e := fun _ => true) (⟨_, g1, rfl, _, rfl⟩ : s.heap.IsList a1 us.toArray) (⟨_, g2, rfl, _, rfl⟩ : s.heap.IsList a2 ws.toArray) hsz (by omega) fun j j1 j2 => by
      obtain ⟨t, w1, w2, ht, p1, p2, s1, s2⟩ := dens_at e1 e2 q1 q2 j j1 j2
      exact eqDen I.hok 60 X.A.in1 t w1 w2 _ _ (by have := depTs_mem ht; omega) (by show X.A.units + 1 + 60 < cLine; omega) p1 p2 s1 s2
    rw [range_all_true] at h
    exact h X.prog X.w _ _ ⟨.bl true, H, I, rfl, q⟩
  | tup ts =>
    obtain ⟨a1, xs, rfl, h1, e1⟩ := d1
    obtain ⟨a2, ys, rfl, h2, e2⟩ := d2
    cases (show v = Value.ref a1 from rx); cases (show u = Value.ref a2 from ry)
    obtain ⟨_, us, q1, g1⟩ := (show ObjOk X.prog X.w H s.heap a1 (.tup xs) from I.hok a1 _ h1)
    obtain ⟨_, ws, q2, g2⟩ := (show ObjOk X.prog X.w H s.heap a2 (.tup ys) from I.hok a2 _ h2)
    have hsz : us.toArray.size = ws.toArray.size := by
      rw [List.size_toArray, List.size_toArray, ← q1.length, ← q2.length, e1.len, e2.len]
    have hd' : depTs ts + 1 ≤ 60 := hd
    have h := SeqAt.RcAt.tuples (A := X.A) (s := s) (e := fun _ => true) (show s.heap.IsTuple a1 us.toArray from g1) (show s.heap.IsTuple a2 ws.toArray from g2) (by omega) fun j j1 j2 => by
      obtain ⟨t, w1, w2, ht, p1, p2, s1, s2⟩ := dens_at e1 e2 q1 q2 j j1 j2
      exact eqDen I.hok 60 X.A.in1 t w1 w2 _ _ (by have := depTs_mem ht; omega) (by show X.A.units + 1 + 60 < cLine; omega) p1 p2 s1 s2
    rw [range_all_true, hsz, beq_self_eq_true, Bool.and_self] at h
    exact h X.prog X.w _ _ ⟨.bl true, H, I, rfl, q⟩
  | emp =>
    obtain ⟨a1, rfl, h1⟩ := d1
    obtain ⟨a2, rfl, h2⟩ := d2
    cases (show v = Value.ref a1 from rx); cases (show u = Value.ref a2 from ry)
    obtain ⟨_, m1, vs1, q1, g1⟩ := (show ObjOk X.prog X.w H s.heap a1 (.dK []) from I.hok a1 _ h1)
    obtain ⟨_, m2, vs2, q2, g2⟩ := (show ObjOk X.prog X.w H s.heap a2 (.dK []) from I.hok a2 _ h2)
    cases q1
    cases q2
    exact PySem.W.keq_eq (K := Key) (knd := mixKind X.prog X.w) (r := true) m1 m2 g1 g2 (by omega) (fun _ => .nil) ⟨.bl true, H, I, rfl, q⟩
  | dic => exact absurd (show cLine + 1 ≤ 60 from hd) (by omega)
end
end L2
set_option maxHeartbeats 4000000
namespace L2
open PySem PySem.Spec PyProof.Rows
section
variable {X : Cx} {pins : List (Addr × Obj)} {σ : St} {H : Hp} {s : Shared} {h' : Heap}
theorem Inv.turnedL {t' : Nat} {fp : List Addr} (I : Inv X pins σ H s) (k : ∀ b o, b ∉ fp → s.heap.get? b = some o → h'.get? b = some o) (hf : ∀ b ∈ fp, FpOk X pins H b) :
    Inv X pins σ H { s with heap := h', toks := t' } := by
  have nin : ∀ b u, H b = some u → b ∉ fp := fun b u e z => by rw [(hf b z).1] at e; cases e
  refine I.step (g' := s.gens) (d' := s.drawn) (ch := fp) (fun b hb => ⟨(hf b hb).2.2.2.1, (hf b hb).2.1, (hf b hb).2.2.2.2.1, (hf b hb).2.2.2.2.2⟩) (fun b o _ _ hc e _ => k b o hc e) (fun b o _ _ hc e _ => ⟨o.slots, k b o hc e⟩) (fun _ _ _ _ n => n)
    (fun b o hc e => ⟨o, k b o hc e⟩) (fun _ _ e => e) (fun _ _ _ e => e) (fun b ps e => ⟨#[], by rw [e]; simp⟩) (fun m hm => ?_) (fun b u e => ?_) I.bare
  · obtain ⟨o, es, ep, ho, r⟩ := hm
    exact ⟨o, es, ep, k _ o (fun z => (hf _ z).2.1 rfl) ho, r⟩
  · refine (I.hok b u e).stay (fun c v hc q => k c v ?_ q) (fun _ q => q) fun _ _ q => q
    rcases hc with z | z
    · rw [z]; exact nin b u e
    · exact nin c _ z
theorem Inv.turnLay {t' : Nat} {fp : List Addr} {a : Addr} {o : HO} (I : Inv X pins σ H s) (k : ∀ b u, b ∉ fp → s.heap.get? b = some u → h'.get? b = some u) (hf : ∀ b ∈ fp, FpOk X pins H b)
    (ha : s.heap.objs.size ≤ a) (new : ObjOk X.prog X.w (upd H a o) h' a o) : Inv X pins σ (upd H a o) { s with heap := h', toks := t' } := by
  have nin : ∀ b u, H b = some u → b ∉ fp := fun b u e z => by rw [(hf b z).1] at e; cases e
  have hn : H a = none := I.hok.fresh ha
  have ne : ∀ b u, H b = some u → b ≠ a := fun b u e z => by rw [z, hn] at e; cases e
  refine I.step (g' := s.gens) (d' := s.drawn) (ch := fp) (fun b hb => ⟨(hf b hb).2.2.2.1, (hf b hb).2.1, (hf b hb).2.2.2.2.1, (hf b hb).2.2.2.2.2⟩) (fun b o _ _ hc e _ => k b o hc e) (fun b o _ _ hc e _ => ⟨o.slots, k b o hc e⟩)
    (fun b u _ e n => by rw [upd_ne (Nat.ne_of_lt (Nat.lt_of_lt_of_le (Heap.lt_size e) ha))]; exact n)
    (fun b o hc e => ⟨o, k b o hc e⟩) (fun b xs e => by rw [upd_ne (ne b _ e)]; exact e) (fun b o u e => by rw [upd_ne (ne b _ e)]; exact e) (fun b ps e => ⟨#[], by rw [upd_ne (ne b _ e), e]; simp⟩) (fun m hm => ?_) (fun b u e => ?_) I.bare
  · obtain ⟨o, es, ep, ho, r⟩ := hm
    exact ⟨o, es, ep, k _ o (fun z => (hf _ z).2.1 rfl) ho, r⟩
  · by_cases hb : b = a
    · subst hb
      rw [upd_same] at e
      cases e
      exact new
    · rw [upd_ne hb] at e
      refine (I.hok b u e).stay (fun c v hc q => k c v ?_ q) (fun c q => by rw [upd_ne (ne c _ q)]; exact q) fun c xs q => by rw [upd_ne (ne c _ q)]; exact q
      rcases hc with z | z
      · rw [z]; exact nin b u e
      · exact nin c _ z
end
noncomputable def Itz (K : PySem.W.Frag) (l1 l2 : Addr) : It :=
  ⟨fun i H => ∃ xs ys x y, SqL K H l1 xs ∧ SqL K H l2 ys ∧ xs[i]? = some x ∧ ys[i]? = some y,
   fun i H v H' => ∃ T x y, H T = none ∧ H' = upd H T (.tup [x, y]) ∧ v = .ref T ∧ (∀ xs, SqL K H l1 xs → xs[i]? = some x) ∧ ∀ ys, SqL K H l2 ys → ys[i]? = some y,
   fun i H => ∃ xs ys, SqL K H l1 xs ∧ SqL K H l2 ys ∧ (xs.length ≤ i ∨ ys.length ≤ i)⟩
noncomputable def ZSt (z TI TO i1 i2 l1 l2 : Addr) (i : Nat) (h : Heap) : Prop :=
  IsZip h z TI TO Value.none ∧ IsPair h TI (.ref i1) (.ref i2) ∧ (∃ a b, IsPair h TO a b) ∧ h.IsListIter i1 l1 i ∧ h.IsListIter i2 l2 i
theorem isList_at {h : Heap} {l : Addr} {items : Array Value} (x : h.IsList l items) : ∃ o, h.get? l = some o ∧ o.cls = .type "list" := by
  obtain ⟨o, e, c, _⟩ := x
  exact ⟨o, e, c⟩
theorem turn_zip {P : Program} {w : World} {K : PySem.W.Frag} {es : List Expr} {k0 : Nat} {p0 : Pos} {z TI TO i1 i2 l1 l2 : Addr} (ap : ZipApart z TI TO i1 i2 l1 l2) :
    Turn P w K (.Tuple es k0 p0) (Itz K l1 l2) [z, TI, TO, i1, i2] z (ZSt z TI TO i1 i2 l1 l2) where
  mem := by simp
  obj := fun i h ⟨a, b, ⟨c1, c2, c⟩, d, e⟩ x hx => by
    simp only [List.mem_cons, List.not_mem_nil, or_false] at hx
    rcases hx with rfl | rfl | rfl | rfl | rfl
    · exact ⟨_, a, fun v q => by cases q⟩
    · exact ⟨_, b, fun v q => by cases q⟩
    · exact ⟨_, c, fun v q => by cases q⟩
    · obtain ⟨o, e1, _, e2⟩ := d
      exact ⟨o, e1, fun v q => by rw [e2] at q; cases q⟩
    · obtain ⟨o, e1, _, e2⟩ := e
      exact ⟨o, e1, fun v q => by rw [e2] at q; cases q⟩
  keep := fun i h h' ⟨a, b, ⟨c1, c2, c⟩, d, e⟩ kk =>
    ⟨kk _ (by simp) _ a, kk _ (by simp) _ b, ⟨c1, c2, kk _ (by simp) _ c⟩, d.at fun o q => kk _ (by simp) o q, e.at fun o q => kk _ (by simp) o q⟩
  item := by
    intro X hP hw hK hc i pins s σ H E I hf st hg
    subst hP hw hK
    obtain ⟨a, b, ⟨c1, c2, c⟩, d, e⟩ := st
    obtain ⟨xs, ys, x, y, q1, q2, x1, y1⟩ := hg
    obtain ⟨its1, rv1, pl1, hz1⟩ := I.list q1
    obtain ⟨its2, rv2, pl2, hz2⟩ := I.list q2
    obtain ⟨u1, hu1, ru1⟩ := rv1.get x1
    obtain ⟨u2, hu2, ru2⟩ := rv2.get y1
    refine wpAny_pyNext_zip_item ap a b c d e pl1.isList pl2.isList (x := u1) (y := u2) (by simpa using hu1) (by simpa using hu2) fun h' za zb zc zd ze zs zk => ?_
    refine ⟨_, rfl, wpAny_letOwnedTupleGo_zip (s := { s with heap := h' }) za fun h2 za2 sb => ?_⟩
    have kk : ∀ b o, b ∉ [z, TI, TO, i1, i2] → s.heap.get? b = some o → h2.get? b = some o := fun b o hb q => by
      simp only [List.mem_cons, List.not_mem_nil, or_false, not_or] at hb
      exact (sb.2 b hb.1).trans (zk b o hb.1 hb.2.2.1 hb.2.2.2.1 hb.2.2.2.2 q)
    have szn : s.heap.objs.size ≠ z := fun q => by
      obtain ⟨f0, _⟩ := hf z (by simp)
      exact absurd (Heap.lt_size a) (by rw [← q]; exact Nat.lt_irrefl _)
    have hT : h2.get? s.heap.objs.size = some { cls := .type "tuple", data := .seq #[u1, u2] } := (sb.2 _ szn).trans ze
    have fr : H s.heap.objs.size = none := I.hok.fresh (Nat.le_refl _)
    have I2 : Inv X pins σ (upd H s.heap.objs.size (.tup [x, y])) { s with heap := h2 } := I.turnLay (t' := s.toks) (fp := [z, TI, TO, i1, i2]) kk hf (Nat.le_refl _)
      ⟨by show 2 ≤ sizeLine; decide, [u1, u2], .cons ru1 (.cons ru2 .nil), ⟨_, hT, rfl, _, rfl⟩⟩
    have kTI : h2.get? TI = some _ := (sb.2 TI ap.TIz).trans (zk TI _ ap.TIz ap.TITO ap.TIi1 ap.TIi2 b)
    refine ⟨.ref s.heap.objs.size, _, I2, rfl, ⟨_, x, y, fr, rfl, rfl, fun zs hz => by rw [I.list_inj hz q1]; exact x1, fun zs hz => by rw [I.list_inj hz q2]; exact y1⟩,
      ⟨za2, kTI, ⟨_, _, (sb.2 TO ap.TOz).trans zb⟩, zc.at fun o q => (sb.2 _ ap.i1z).trans q, zd.at fun o q => (sb.2 _ ap.i2z).trans q⟩, fun b hb => ?_⟩
    have h0 := (hf b hb).1
    have hlt : b ≠ s.heap.objs.size := fun q => by
      subst q
      simp only [List.mem_cons, List.not_mem_nil, or_false] at hb
      rcases hb with q | q | q | q | q
      · exact szn q
      · exact absurd (Heap.lt_size b) (by rw [← q]; exact Nat.lt_irrefl _)
      · exact absurd (Heap.lt_size c) (by rw [← q]; exact Nat.lt_irrefl _)
      · obtain ⟨o, e1, _⟩ := d
        exact absurd (Heap.lt_size e1) (by rw [← q]; exact Nat.lt_irrefl _)
      · obtain ⟨o, e1, _⟩ := e
        exact absurd (Heap.lt_size e1) (by rw [← q]; exact Nat.lt_irrefl _)
    rw [upd_ne hlt]
    exact h0
  done := by
    intro X hP hw hK hc i pins s σ H E I hf st hg
    subst hP hw hK
    obtain ⟨a, b, ⟨c1, c2, c⟩, d, e⟩ := st
    obtain ⟨xs, ys, q1, q2, hl⟩ := hg
    obtain ⟨its1, rv1, pl1, hz1⟩ := I.list q1
    obtain ⟨its2, rv2, pl2, hz2⟩ := I.list q2
    have g1 := rv1.length
    have g2 := rv2.length
    refine wpAny_pyNext_zip_end (I.ok.hd hc) ap a b c d e pl1.isList pl2.isList ?_ fun h' zk => ⟨rfl, I.turnedL (t' := s.toks) (fp := [z, TI, TO, i1, i2]) (fun b o hb q => ?_) hf⟩
    · rcases hl with q | q
      · left; simp; omega
      · right; simp; omega
    · simp only [List.mem_cons, List.not_mem_nil, or_false, not_or] at hb
      exact zk b o hb.1 hb.2.2.1 hb.2.2.2.1 hb.2.2.2.2 q
  self := fun _ _ _ _ _ st h => wpAny_pyIter_zip st.1 h
theorem zapart {n l1 l2 : Nat} (h1 : l1 < n) (h2 : l2 < n) : ZipApart (n + 4) (n + 2) (n + 3) n (n + 1) l1 l2 := by
  constructor <;> (show (_ : Nat) ≠ (_ : Nat); omega)
noncomputable def iZip (K : PySem.W.Frag) (ta : TA) : TI := fun σ H R => ta σ H fun vs H1 => ∃ a b, vs = [.ref a, .ref b] ∧ (∃ xs, SqL K H1 a xs) ∧ (∃ ys, SqL K H1 b ys) ∧ R (Itz K a b) H1
theorem pi_zip {X : Cx} {es : List Expr} {k0 : Nat} {p0 : Pos} {a b : Expr} {ta : TA} {p pos : Pos} (hg : Gl X "zip") (hm : X.mg "zip" = none) (ha : PA X [a, b] ta) (hs : starEach [a, b] X.env = [(false, eval a X.env), (false, eval b X.env)] := by rfl) (hs2 : starEach [b] X.env = [(false, eval b X.env)] := by rfl) :
    PI X (.Tuple es k0 p0) (.Call (.Name "zip" p) [a, b] [] pos) (iZip X.K ta) := by
  intro pins s σ H R I h
  refine Call_ (ld_blt I hg hm boot_zip (PyProof.Rows.callWith_type1 (thn (ha pos pins s σ H _ I h) fun us s1 ⟨vs, H1, I1, r1, q1⟩ => ?_) (by rw [hs, hs2]) (by rw [hs2]; rfl)))
  obtain ⟨l1, l2, e, ⟨xs, q1⟩, ⟨ys, q2⟩, q⟩ := q1
  subst e
  cases r1 with
  | cons r rr =>
    cases rr with
    | cons r' rr =>
      cases rr
      cases r
      cases r'
      obtain ⟨its1, rv1, pl1, hz1⟩ := I1.list q1
      obtain ⟨its2, rv2, pl2, hz2⟩ := I1.list q2
      have lt1 : l1 < s1.heap.objs.size := by obtain ⟨o, e, _⟩ := isList_at pl1.isList; exact Heap.lt_size e
      have lt2 : l2 < s1.heap.objs.size := by obtain ⟨o, e, _⟩ := isList_at pl2.isList; exact Heap.lt_size e
      refine call_zip_2 pl1.isList pl2.isList fun h' za zb zc zd ze zs zk => ?_
      refine wpAny_pyIter_zip (s := { s1 with heap := h' }) za ?_
      have I2 : Inv X pins σ H1 { s1 with heap := h' } := I1.kept (t' := s1.toks) fun b o e => zk b o e
      refine ⟨_, [_, _, _, _, _], _, _, H1, rfl, I2, turn_zip (z := s1.heap.objs.size + 4) (TI := s1.heap.objs.size + 2) (TO := s1.heap.objs.size + 3) (i1 := s1.heap.objs.size) (i2 := s1.heap.objs.size + 1) (l1 := l1) (l2 := l2) ?_, ⟨za, zb, ⟨_, _, zc⟩, zd, ze⟩, fun b hb => ?_, q⟩
      · exact zapart lt1 lt2
      · simp only [List.mem_cons, List.not_mem_nil, or_false] at hb
        have ge : s1.heap.objs.size ≤ b := by rcases hb with z | z | z | z | z <;> (subst z; first | exact Nat.le_add_right _ _ | exact Nat.le_refl _)
        exact I1.fpOk ge (I1.hok.fresh ge)
end L2
set_option maxHeartbeats 4000000
namespace L2
open PySem PySem.Spec PyProof.Rows
noncomputable abbrev testsOf (ifs : List Expr) (env : Env) : Sem Bool := forIn ifs true fun c ok => if ok = true then do
      let ok ← PySem.isTrue c env (eval c env)
      pure (ForInStep.yield ok)
    else pure (ForInStep.yield ok)
theorem compTurn_ifs (elt target iter : Expr) (ifs : List Expr) (scope : Scope) (pos : Pos) (it acc : Value) (env : Env) :
  compTurn (elt.ListComp [⟨target, iter, ifs, 0⟩] scope pos) 0 it acc env = (do
    standAt iter.pos
    let r ← pyNext it
    match r with
      | none => pure (Fin.done Flow.next)
      | some v => do
        letOwnedTupleGo target it v
        assign target env v
        let ok ← testsOf ifs env
        if ok = true then do
          let x ← eval elt env
          let _ ← call (Value.builtin "list.append") [acc, x]
          again (Code.compLoop (elt.ListComp [⟨target, iter, ifs, 0⟩] scope pos) 0 it acc env)
        else again (Code.compLoop (elt.ListComp [⟨target, iter, ifs, 0⟩] scope pos) 0 it acc env)) := by
  unfold compTurn
  simp
  rfl
noncomputable def PIf (X : Cx) (ifs : List Expr) (t : TT) : Prop :=
  ∀ (pins : List (Addr × Obj)) (s : Shared) (σ : St) (H : Hp) (Q : Bool → Hp → Prop), Inv X pins σ H s → t σ H Q → wpAny (model X.prog X.w) X.A (testsOf ifs X.env) (TP X pins σ Q) X.xe s
noncomputable def tYes : TT := fun _ H Q => Q true H
theorem pif_nil {X : Cx} : PIf X [] tYes := fun pins s σ H Q I h => by
  show wpAny _ _ (pure true) _ _ s
  exact wpAny_pure ⟨H, I, h⟩
theorem pif_one {X : Cx} {c : Expr} {t : TT} (hc : PT X c t) : PIf X [c] t := fun pins s σ H Q I h => by
  have e : testsOf [c] X.env = PySem.isTrue c X.env (eval c X.env) := by simp [testsOf]
  rw [e]
  exact hc pins s σ H Q I h
theorem compLoop_ifs {prog : Program} {w : World} {A : Around} {R : Result → Shared → Prop} {s : Shared} {elt tg iter : Expr} {ifs : List Expr} {scope : Scope} {pos : Pos} {it acc : Value} {env : Env} (Iv : Nat → Shared → Prop)
    (turn : ∀ k s, Iv k s → wpAny (model prog w) A (pyNext it) (fun r s1 => match r with
      | none => R (.ok .next) s1
      | some v => wpAny (model prog w) A (letOwnedTupleGo tg it v) (fun _ s2 => wpAny (model prog w) A (assign tg env v) (fun _ s3 => wpAny (model prog w) A (testsOf ifs env) (fun b s4 => if b = true then
          wpAny (model prog w) A (eval elt env) (fun y s5 => wpAny (model prog w) A (call (.builtin "list.append") [acc, y]) (fun _ s6 => ∃ m, m < k ∧ Iv m s6) (fun _ _ => False) s5) (fun _ _ => False) s4
          else ∃ m, m < k ∧ Iv m s4) (fun _ _ => False) s3) (fun _ _ => False) s2) (fun _ _ => False) s1) (fun _ _ => False) s)
    (k : Nat) (h : Iv k s) : codeAny (model prog w) A (.compLoop (.ListComp elt [⟨tg, iter, ifs, 0⟩] scope pos) 0 it acc env) R s := by
  refine codeAny_loop rfl Iv (fun k s hI => ?_) k h
  show wpAny _ _ ((compTurn (.ListComp elt [⟨tg, iter, ifs, 0⟩] scope pos) 0 it acc env).onRaise (fun e => do noteFrame e env; theTreesLotGoes e)) _ _ s
  refine wpAny_noted ?_
  rw [compTurn_ifs]
  refine wpAny_bind (wpAny_standAt (wpAny_bind (wpAny_mono (turn k s hI) (fun r s1 h1 => ?_) fun _ _ f => f.elim)))
  cases r with
  | none => exact wpAny_pure h1
  | some v =>
    refine wpAny_bind (wpAny_mono h1 (fun _ s2 h2 => wpAny_bind (wpAny_mono h2 (fun _ s3 h3 => wpAny_bind (wpAny_mono h3 (fun b s4 h4 => ?_) fun _ _ f => f.elim)) fun _ _ f => f.elim)) fun _ _ f => f.elim)
    cases b with
    | true =>
      rw [if_pos rfl] at h4 ⊢
      exact wpAny_bind (wpAny_mono h4 (fun y s5 h5 => wpAny_bind (wpAny_mono h5 (fun _ s6 h6 => wpAny_pure ⟨rfl, h6⟩) fun _ _ f => f.elim)) fun _ _ f => f.elim)
    | false =>
      rw [if_neg Bool.false_ne_true] at h4 ⊢
      exact wpAny_pure ⟨rfl, h4⟩
structure CompOkL (X : Cx) (xs : List Str) (ts : List (Str × Nat)) (scope : Scope) (cl : List (Str × Addr)) : Prop where
  clos : closureFor scope X.env = pure cl
  sub : ∀ y c, cl.lookup y = some c → X.env.cells.lookup y = some c
  nocell : (scope.names.all fun p => p.2 != .cell) = true
  kind : scope.kind = .function
  locs : (scope.names.all fun p => p.2 != .local || scope.names.lookup p.1 == some .local) = true
  nd : (xs ++ ts.map (·.1)).Nodup
  around : (ts.all fun p => decide (X.N[p.2]? = some p.1) && (X.env.kindOf p.1 == some .cell || X.env.kindOf p.1 == some .free) && (cl.lookup p.1).isSome &&
    ((relabel scope X.env).names.lookup p.1 == some .cell || (relabel scope X.env).names.lookup p.1 == some .free)) = true
  has : ((relabel scope X.env).names.all fun p => !(p.2 == .cell || p.2 == .free) || (cl.lookup p.1).isSome) = true
noncomputable abbrev nmsL (xs : List Str) (ts : List (Str × Nat)) : List Str := xs ++ ts.map (·.1)
noncomputable def CompG (J : It) (g : TG) (tt : TT) (te : TE) (k : Nat) (st : St) (D : Addr) (H1 : Hp) (Q : VK) : Prop :=
  ∃ W : Nat → Nat → List V → Hp → Prop, (∃ m, W 0 m [] (upd H1 D (.lst []))) ∧ ∀ i m ys H2, W i m ys H2 →
    (J.stop i H2 ∧ Q (.ref D) H2) ∨ (J.go i H2 ∧ ∀ x H3 σ0, J.yld i H2 x H3 → σ0.length = k → g x (σ0 ++ st) H3 fun σ2 H4 => (∃ σ1, σ1.length = k ∧ σ2 = σ1 ++ st) ∧ tt σ2 H4 fun b H5 =>
      if b = true then te σ2 H5 fun y H6 => H6 D = some (.lst ys) ∧ ys.length < sizeLine ∧ ∃ m', m' < m ∧ W (i + 1) m' (ys ++ [y]) (upd H6 D (.lst (ys ++ [y])))
      else ∃ m', m' < m ∧ W (i + 1) m' ys H5)
noncomputable def tCompG (wi : TI) (g : TG) (tt : TT) (k : Nat) (fr : List Nat) (te : TE) : TE := fun σ H Q => wi σ H fun J H1 => ∀ D, H1 D = none → CompG J g tt te k (taken σ fr) D H1 Q
section
variable {X : Cx} {elt iter tg : Expr} {ifs : List Expr} {xs : List Str} {pos : Pos} {scope : Scope} {cl : List (Str × Addr)} {ts : List (Str × Nat)} {wi : TI} {te : TE} {g : TG} {tt : TT}
theorem CompOkL.nocell' (O : CompOkL X xs ts scope cl) : ∀ y ∈ scope.names, y.2 ≠ .cell := fun y hy e => by
  have := List.all_eq_true.mp O.nocell y hy
  rw [e] at this
  cases this
theorem CompOkL.locs' (O : CompOkL X xs ts scope cl) : ∀ y ∈ scope.names, y.2 = .local → scope.names.lookup y.1 = some .local := fun y hy e => by
  have h := List.all_eq_true.mp O.locs y hy
  rw [e] at h
  rcases Bool.or_eq_true_iff.mp h with z | z
  · cases z
  · exact beq_iff_eq.mp z
theorem CompOkL.from' (O : CompOkL X xs ts scope cl) : ∀ (i : Nat) (y : Str), (ts.map (·.1))[i]? = some y → ∃ j, (sltOf ts)[i]? = some j ∧ X.N[j]? = some y ∧ (X.env.kindOf y = some .cell ∨ X.env.kindOf y = some .free) ∧ (cl.lookup y).isSome = true ∧
    ((relabel scope X.env).names.lookup y = some .cell ∨ (relabel scope X.env).names.lookup y = some .free) := fun i y e1 => by
  rw [List.getElem?_map] at e1
  cases q : ts[i]? with
  | none => rw [q] at e1; cases e1
  | some p =>
    rw [q] at e1
    have e2 : p.1 = y := Option.some.inj e1
    subst e2
    have h := List.all_eq_true.mp O.around p (List.mem_of_getElem? q)
    simp only [Bool.and_eq_true, Bool.or_eq_true, beq_iff_eq, decide_eq_true_eq] at h
    obtain ⟨⟨⟨h1, h2⟩, h3⟩, h4⟩ := h
    refine ⟨p.2, ?_, h1, h2, h3, h4⟩
    show (ts.map (·.2))[i]? = some p.2
    rw [List.getElem?_map, q] <;> rfl
theorem CompOkL.has' (O : CompOkL X xs ts scope cl) : ∀ y, ((relabel scope X.env).names.lookup y = some .cell ∨ (relabel scope X.env).names.lookup y = some .free) → (cl.lookup y).isSome = true := fun y h => by
  have go : ∀ k : NameKind, (k = .cell ∨ k = .free) → (relabel scope X.env).names.lookup y = some k → (cl.lookup y).isSome = true := fun k hk e => by
    have z := List.all_eq_true.mp O.has (y, k) (PySem.mem_of_lookup e)
    rcases Bool.or_eq_true_iff.mp z with z | z
    · rcases hk with e | e <;> (rw [e] at z; cases z)
    · exact z
  rcases h with h | h
  · exact go _ (.inl rfl) h
  · exact go _ (.inr rfl) h
theorem compL_ok {pins : List (Addr × Obj)} {σ : St} {H3 : Hp} {s3 : Shared} {fp : List Addr} (O : CompOkL X xs ts scope cl) (I3 : Inv X pins σ H3 s3) (hfp : ∀ b ∈ fp, FpOk X pins H3 b ∧ b < s3.heap.objs.size) :
    (cxComp X (nmsL xs ts) scope cl s3.heap.objs.size s3 H3 fp).Ok where
  mod := I3.ok.mod
  kind := O.kind
  glob := I3.ok.glob
  blt := I3.ok.blt
  above := Nat.le_refl _
  inj := fun y z c h1 h2 => I3.ok.inj y z c (O.sub y c h1) (O.sub z c h2)
  has := fun y h => Option.isSome_iff_exists.mp (O.has' y h)
  cab := fun y c h => by cases h
  hd := I3.ok.hd
  frames := I3.ok.frames
  stk := .inl rfl
  exf := fun b hb => ⟨Nat.ne_of_lt (hfp b hb).2, fun y c e => (hfp b hb).1.2.2.2.2.1 y c (O.sub y c e)⟩
  bs := fun b o e => I3.bs b o e
  bsz := Nat.le_trans I3.ok.bsz I3.sz
  noex := fun b o e hb => by
    rcases (hfp b hb).1.2.2.2.1 with z | z
    · exact I3.ok.noex b o e z
    · exact absurd (Nat.lt_of_lt_of_le (Heap.lt_size (I3.ok.bs b o e).1) z) (Nat.lt_irrefl _)
  exfs := fun b hb hz => by
    rcases List.mem_cons.mp (I3.stkSub b hz) with e | e
    · exact (hfp b hb).1.2.1 e
    · exact (hfp b hb).1.2.2.1 e
  funs := I3.stack
  frf := I3.stkFree
theorem compL_start {pins : List (Addr × Obj)} {σ : St} {H3 : Hp} {s3 : Shared} {fp : List Addr} {h1 : Heap} {tk : Nat} (O : CompOkL X xs ts scope cl) (I3 : Inv X pins σ H3 s3) (hfp : ∀ b ∈ fp, FpOk X pins H3 b ∧ b < s3.heap.objs.size)
    (hns : h1.Ns s3.heap.objs.size fun _ => none) (old : ∀ b o, s3.heap.get? b = some o → h1.get? b = some o) :
    Inv (cxComp X (nmsL xs ts) scope cl s3.heap.objs.size s3 H3 fp) [] (List.replicate xs.length none ++ taken σ (sltOf ts)) H3 { s3 with heap := h1, toks := tk } := by
  refine ⟨compL_ok O I3 hfp, rfl, I3.bare, Un.kept old, ⟨_, hns, fun i y v e1 e2 e3 => ?_⟩, fun y c e => ?_, I3.hok.fresh (Nat.le_refl _), fun y c e => I3.freeC y c (O.sub y c e), fun p hp => absurd (show p ∈ ([] : List (Addr × Obj)) from hp) (by simp), I3.hok.kept old, ?_⟩
  · by_cases hi : i < xs.length
    · rw [List.getElem?_append_left (by simpa using hi), List.getElem?_replicate, if_pos hi] at e2
      cases e2
    · have hi' : xs.length ≤ i := Nat.le_of_not_lt hi
      have e1' : (ts.map (·.1))[i - xs.length]? = some y := by
        have : (xs ++ ts.map (·.1))[i]? = some y := e1
        rw [List.getElem?_append_right hi'] at this; exact this
      rw [List.getElem?_append_right (by simpa using hi')] at e2
      rw [List.length_replicate] at e2
      obtain ⟨j, hj, hN, hk, hcl, hk2⟩ := O.from' _ y e1'
      have e2' : σ[j]? = some (some v) := by
        have q := e2
        unfold taken at q
        rw [List.getElem?_map, hj] at q
        have q' : (σ[j]?).getD none = some v := Option.some.inj q
        cases z : σ[j]? with
        | none => rw [z] at q'; cases q'
        | some w => rw [z] at q'; rw [show w = some v from q']
      obtain ⟨m, hn, hl⟩ := I3.loc
      have vis : Vis X.env.scope y := hk.elim (fun z => .inr (.inl z)) fun z => .inr (.inr z)
      obtain ⟨u, r, l⟩ := hl j y v hN e2' vis
      obtain ⟨c, hc⟩ := Option.isSome_iff_exists.mp hcl
      refine ⟨u, r, .inr ⟨hk2, c, hc, ?_⟩⟩
      rcases l with ⟨k, _⟩ | ⟨_, c', hc', z⟩
      · rcases hk with hk | hk
        · rw [k] at hk; cases hk
        · rw [k] at hk; cases hk
      · rw [O.sub y c hc] at hc'
        cases hc'
        obtain ⟨o, ho, hd⟩ := z
        exact ⟨o, old c o ho, hd⟩
  · obtain ⟨v, o, ho, hd⟩ := I3.cell y c (O.sub y c e)
    exact ⟨v, o, old c o ho, hd⟩
  · show (List.replicate xs.length none ++ taken σ (sltOf ts)).length = (nmsL xs ts).length
    simp [taken]
theorem compG_run {use : Option (Value → Sem Unit)} {QV : Value → Shared → Prop} {cpos : Pos} {pins : List (Addr × Obj)} {s : Shared} {σ : St} {H : Hp} {Q : VK} (hc : X.calm = true) (O : CompOkL X xs ts scope cl) (hi : PI X tg iter wi) (hg : ∀ C s3 H3 fp, PG (cxComp X (nmsL xs ts) scope cl C s3 H3 fp) tg g)
    (ht : ∀ C s3 H3 fp, PIf (cxComp X (nmsL xs ts) scope cl C s3 H3 fp) ifs tt) (he : ∀ C s3 H3 fp, PE (cxComp X (nmsL xs ts) scope cl C s3 H3 fp) elt te)
    (hs : ∀ x, foldedSetIterable iter X.env x = pure x) (I : Inv X pins σ H s) (h : tCompG wi g tt xs.length (sltOf ts) te σ H Q)
    (fin : ∀ (D C : Addr) (s6 : Shared) (H5 : Hp), Inv X pins σ H5 s6 → FpOk X pins H5 C → (∃ m, s6.heap.Ns C m) → Q (.ref D) H5 → compPost (model X.prog X.w) X.A X.xe use QV (.ref D) C (.ok .next) s6) :
    wpAny (model X.prog X.w) X.A (comprehension (.ListComp elt [⟨tg, iter, ifs, 0⟩] scope pos) scope X.env cpos (newList []) false (eval iter X.env) use) QV X.xe s := by
  refine wpAny_comprehension_free (use := use) rfl hs O.clos O.kind O.locs' (thn (hi pins s σ H _ I h) fun v s1 h1 => thn h1 fun itv s2 h2 => ?_)
  obtain ⟨it, fp, tn, J, H2, rfl, I2, T, st2, f2, q⟩ := h2
  have hD : H2 s2.heap.objs.size = none := I2.hok.fresh (Nat.le_refl _)
  obtain ⟨W, ⟨m0, w0⟩, turn⟩ := q s2.heap.objs.size hD
  refine wpAny_newObj_type ?_
  have I3 : Inv X pins σ (upd H2 s2.heap.objs.size (.lst [])) { s2 with heap := s2.heap.push { cls := .type "list", dict := none, data := .seq ([] : List Value).toArray } } :=
    I2.laid (a := s2.heap.objs.size) (o := .lst []) (t' := s2.toks) (fun b u e => Heap.get?_push_of_some _ e) (Nat.le_refl _) ⟨Nat.zero_le _, [], 0, .nil, Heap.get?_push_size _ rfl⟩
  generalize hs3 : ({ s2 with heap := s2.heap.push { cls := .type "list", dict := none, data := .seq ([] : List Value).toArray } } : Shared) = s3 at I3
  have sz3 : s3.heap.objs.size = s2.heap.objs.size + 1 := by rw [← hs3, Heap.size_push]
  have old3 : ∀ b u, s2.heap.get? b = some u → s3.heap.get? b = some u := fun b u e => by rw [← hs3]; exact Heap.get?_push_of_some _ e
  generalize hH3 : upd H2 s2.heap.objs.size (.lst []) = H3 at I3 w0
  have fp2 : ∀ b ∈ fp, b < s2.heap.objs.size := fun b hb => by
    obtain ⟨o, e, _⟩ := T.obj _ _ st2 b hb
    exact Heap.lt_size e
  have hfp : ∀ b ∈ fp, FpOk X pins H3 b ∧ b < s3.heap.objs.size := fun b hb => by
    refine ⟨⟨?_, (f2 b hb).2⟩, by rw [sz3]; exact Nat.lt_succ_of_lt (fp2 b hb)⟩
    rw [← hH3, upd_ne (Nat.ne_of_lt (fp2 b hb))]
    exact (f2 b hb).1
  refine wpAny_newFunctionEnv O.nocell' (by intro y hy; simp at hy) (fun h₁ hns₁ hsb₁ => ?_) O.kind
  have old : ∀ b o, s3.heap.get? b = some o → h₁.get? b = some o := fun b o e => hsb₁.extBut b o (Nat.ne_of_lt (Heap.lt_size e)) (Heap.get?_push_of_some _ e)
  have start : Inv (cxComp X (nmsL xs ts) scope cl s3.heap.objs.size s3 H3 fp) [] (List.replicate xs.length none ++ taken σ (sltOf ts)) H3 { s3 with heap := h₁, toks := s3.toks + 0 } := compL_start O I3 hfp hns₁ old
  have st4 : tn 0 h₁ := T.keep _ _ _ st2 fun b hb o e => old b o (old3 b o e)
  have okX : ∀ {H' : Hp}, (∀ b ∈ fp, H' b = none) → ∀ b ∈ fp, FpOk (cxComp X (nmsL xs ts) scope cl s3.heap.objs.size s3 H3 fp) [] H' b := fun hn b hb => by
    refine ⟨hn b hb, Nat.ne_of_lt (hfp b hb).2, fun z => ?_, .inl hb, fun y c e => (f2 b hb).2.2.2.2.1 y c (O.sub y c e), fun p hp => absurd (show p ∈ ([] : List (Addr × Obj)) from hp) (by simp)⟩
    rcases List.mem_cons.mp (I3.stkSub b z) with e | e
    · exact (f2 b hb).2.1 e
    · exact (f2 b hb).2.2.1 e
  have loop : ∀ s₄ : Shared, s₄ = { s3 with heap := h₁, toks := s3.toks + 0 } →
      codeAny (model X.prog X.w) X.A (.compLoop (.ListComp elt [⟨tg, iter, ifs, 0⟩] scope pos) 0 (.ref it) (.ref s2.heap.objs.size) (compEnvC scope cl s3.heap.objs.size X.env))
        (compPost (model X.prog X.w) X.A X.xe use QV (.ref s2.heap.objs.size) s3.heap.objs.size) s₄ := by
    rintro s₄ rfl
    refine compLoop_ifs (fun n s' => ∃ i ys σ0 H', σ0.length = xs.length ∧ Inv (cxComp X (nmsL xs ts) scope cl s3.heap.objs.size s3 H3 fp) [] (σ0 ++ taken σ (sltOf ts)) H' s' ∧ tn i s'.heap ∧ (∀ b ∈ fp, H' b = none) ∧ W i n ys H') ?_ m0
      ⟨0, [], _, H3, by simp, start, st4, fun b hb => (hfp b hb).1.1, w0⟩
    rintro n s5 ⟨i, ys, σ0, H5, l0, I5, st5, fr5, w5⟩
    rcases turn i n ys H5 w5 with ⟨stop, qn⟩ | ⟨go, step⟩
    · refine thn (T.done (cxComp X (nmsL xs ts) scope cl s3.heap.objs.size s3 H3 fp) rfl rfl rfl hc i [] s5 (σ0 ++ taken σ (sltOf ts)) H5 _ I5 (okX fr5) st5 stop) fun r s6 ⟨hr, I6⟩ => ?_
      subst hr
      obtain ⟨m, hn, _⟩ := id I6.loc
      have u6 : Un (frs X.stack) fp H3 H5 s3.heap s6.heap := I6.base
      have fC : H5 s3.heap.objs.size = none := I6.free
      exact fin s2.heap.objs.size s3.heap.objs.size s6 H5 (I3.call' (s' := s6) (ch := fp) I6.os u6 I6.hok I6.bare (fun b hb => ⟨(f2 b hb).2.2.2.1, (f2 b hb).2.1, (f2 b hb).2.2.2.2.1, (f2 b hb).2.2.2.2.2⟩))
        (I3.fpOk (Nat.le_refl _) fC) ⟨m, hn⟩ qn
    · refine thn (T.item (cxComp X (nmsL xs ts) scope cl s3.heap.objs.size s3 H3 fp) rfl rfl rfl hc i [] s5 (σ0 ++ taken σ (sltOf ts)) H5 _ I5 (okX fr5) st5 go) fun r s6 ⟨u, hr, h6⟩ => ?_
      subst hr
      refine thn h6 fun _ s7 ⟨z, H7, I7, rz, yz, st7, fr7⟩ => ?_
      have I7' := I7.pinned (okX fr7) (T.obj _ _ st7)
      refine thn (hg s3.heap.objs.size s3 H3 fp _ s7 _ H7 z u _ I7' rz (step z H7 σ0 yz l0)) fun _ s8 ⟨σ8, H8, I8, ⟨σ1, l1, e8⟩, q8⟩ => ?_
      subst e8
      refine thn (ht s3.heap.objs.size s3 H3 fp _ s8 _ H8 _ I8 q8) fun b s9 ⟨H9, I9, q9⟩ => ?_
      cases b with
      | true =>
        rw [if_pos rfl] at q9 ⊢
        refine thn (he s3.heap.objs.size s3 H3 fp _ s9 _ H9 _ I9 q9) fun y s10 ⟨vy, H10, I10, ry, hD9, hl9, m', hm', w9⟩ => ?_
        refine thn (mt_append (X := cxComp X (nmsL xs ts) scope cl s3.heap.objs.size s3 H3 fp) _ s10 _ H10 (.ref s2.heap.objs.size) [vy] (.ref s2.heap.objs.size) [y] (fun _ H11 => H11 = upd H10 s2.heap.objs.size (.lst (ys ++ [vy]))) I10 rfl (.cons ry .nil) ⟨_, ys, vy, rfl, rfl, hD9, hl9, rfl⟩) fun _ s11 ⟨_, H11, I11, _, e11⟩ => ?_
        subst e11
        refine ⟨m', hm', i + 1, ys ++ [vy], σ1, _, l1, I11.unpinned, T.keep _ _ _ st7 fun b hb o e => (I11.pin (b, o) (List.mem_append_right _ (List.mem_append_right _ (mem_pinsAt hb e)))).1, fun b hb => ?_, w9⟩
        obtain ⟨o, e, d⟩ := T.obj _ _ st7 b hb
        exact (I11.pin (b, o) (List.mem_append_right _ (List.mem_append_right _ (mem_pinsAt hb e)))).2.1
      | false =>
        rw [if_neg Bool.false_ne_true] at q9 ⊢
        obtain ⟨m', hm', w9⟩ := q9
        refine ⟨m', hm', i + 1, ys, σ1, _, l1, I9.unpinned, T.keep _ _ _ st7 fun b hb o e => (I9.pin (b, o) (List.mem_append_right _ (List.mem_append_right _ (mem_pinsAt hb e)))).1, fun b hb => ?_, w9⟩
        obtain ⟨o, e, d⟩ := T.obj _ _ st7 b hb
        exact (I9.pin (b, o) (List.mem_append_right _ (List.mem_append_right _ (mem_pinsAt hb e)))).2.1
  have hst := codeAny_compStart_list (loop _ rfl) (T.self X.A 0 _ _ _ st4 (loop _ rfl))
  exact hst
theorem pe_compG (hc : X.calm = true) (O : CompOkL X xs ts scope cl) (hi : PI X tg iter wi) (hg : ∀ C s3 H3 fp, PG (cxComp X (nmsL xs ts) scope cl C s3 H3 fp) tg g)
    (ht : ∀ C s3 H3 fp, PIf (cxComp X (nmsL xs ts) scope cl C s3 H3 fp) ifs tt) (he : ∀ C s3 H3 fp, PE (cxComp X (nmsL xs ts) scope cl C s3 H3 fp) elt te)
    (hs : ∀ x, foldedSetIterable iter X.env x = pure x := by intro _; rfl) : PE X (.ListComp elt [⟨tg, iter, ifs, 0⟩] scope pos) (tCompG wi g tt xs.length (sltOf ts) te) := by
  intro pins s σ H Q I h
  rw [eval_ListComp]
  refine compG_run (use := none) hc O hi hg ht he hs I h fun D C s6 H5 I6 fC ⟨m, hn⟩ q => ?_
  refine ⟨m, hn, fun h' sb => ⟨.ref D, H5, ?_, rfl, q⟩⟩
  exact I6.turned (it := C) (t' := s6.toks) (fun b o hb e => (sb.2 b hb).trans e) fC.1 fC.2.1 fC.2.2.2.1 fC.2.2.2.2.1 fC.2.2.2.2.2
theorem ps_setC {i : Nat} {x : Str} {pos' sp : Pos} (hN : X.N.Nodup) (hix : X.N[i]? = some x) (hx : Loc X.env.scope x) (hc : X.calm = true) (O : CompOkL X xs ts scope cl) (hi : PI X tg iter wi) (hg : ∀ C s3 H3 fp, PG (cxComp X (nmsL xs ts) scope cl C s3 H3 fp) tg g)
    (ht : ∀ C s3 H3 fp, PIf (cxComp X (nmsL xs ts) scope cl C s3 H3 fp) ifs tt) (he : ∀ C s3 H3 fp, PE (cxComp X (nmsL xs ts) scope cl C s3 H3 fp) elt te)
    (hs : ∀ x, foldedSetIterable iter X.env x = pure x := by intro _; rfl) (hw : swapsWith (.ListComp elt [⟨tg, iter, ifs, 0⟩] scope pos) (some (.Name x pos')) sp.line X.env = pure true := by rfl)
    (hf : X.fn x = true ∨ X.env.scope.names.lookup x = some .local := by first | exact .inl rfl | exact .inr rfl | assumption) :
    PS X (.Assign [.Name x pos'] (.ListComp elt [⟨tg, iter, ifs, 0⟩] scope pos) sp) (tAsg (tCompG wi g tt xs.length (sltOf ts) te) (gName i)) := by
  intro pins s σ H D I h
  rw [exec_Assign_Name_used x pos' _ sp hw]
  refine wpAny_bind (wpAny_standAt (wpAny_bind ?_))
  show wpAny _ _ ((comprehension _ scope X.env _ (newList []) _ _ (some _)) >>= fun _ => pure ()) _ _ s
  refine wpAny_bind (compG_run (use := some (assign (.Name x pos') X.env)) hc O hi hg ht he hs I h fun A C s6 H5 I6 fC ⟨m, hn⟩ q => ?_)
  obtain ⟨o, es, ep, ho, r⟩ := id hn
  have onlyC : ∀ b : Addr, b ∈ [C] → b = C := fun b hb => by simpa using hb
  have I6' := I6.pinned (fp := [C]) (fun b hb => onlyC b hb ▸ fC) (fun b hb => by
    rw [onlyC b hb]
    exact ⟨o, ho, fun v z => by rw [r.1] at z; cases z⟩)
  refine wpAny_assign_Name (store_ok I6' hN hix hx (v := .ref A) rfl (fun s7 I7 => ?_) hf)
  have e7 : s7.heap.get? C = some o := (I7.pin (C, o) (List.mem_append_right _ (List.mem_append_right _ (mem_pinsAt (by simp) ho)))).1
  refine ⟨m, ⟨o, es, ep, e7, r⟩, fun h' sb => wpAny_pure (wpAny_pure ⟨_, H5, ?_, q⟩)⟩
  exact I7.unpinned.turned (it := C) (t' := s7.toks) (fun b o hb e => (sb.2 b hb).trans e) fC.1 fC.2.1 fC.2.2.2.1 fC.2.2.2.2.1 fC.2.2.2.2.2
end
theorem pg_tupC {X : Cx} {N' : List Str} {scope : Scope} {cl : List (Str × Addr)} {C : Addr} {s3 : Shared} {H3 : Hp} {fp : List Addr} {pos : Pos} {es : List Expr} {k : Nat} {t : TGs} {n : Nat} (hc : X.calm = true) (h : PGs (cxComp X N' scope cl C s3 H3 fp) es t)
    (hn : (assignEach es (cxComp X N' scope cl C s3 H3 fp).env).length = n := by rfl) (hst : (assignEach es (cxComp X N' scope cl C s3 H3 fp).env).findIdx? (·.1) = none := by rfl) : PG (cxComp X N' scope cl C s3 H3 fp) (.Tuple es k pos) (gTup X.K n t) := pg_tup hc h hn hst
theorem sub0 {cs : List (Str × Addr)} : ∀ (y : Str) (c : Addr), List.lookup y ([] : List (Str × Addr)) = some c → cs.lookup y = some c := fun _ _ h => by cases h
end L2
set_option maxHeartbeats 4000000
namespace L2
open PySem PySem.Spec PyProof.Rows
section
variable {X : Cx}
noncomputable def rInsert : V → List V → Hp → VK → Prop := fun x vs H Q => ∃ (l : Addr) (xs : List V) (i : Int) (y : V), x = .ref l ∧ vs = [.int i, y] ∧ H l = some (.lst xs) ∧ 0 ≤ i ∧ i.toNat ≤ xs.length ∧ xs.length < sizeLine ∧ Q .non (upd H l (.lst (xs.take i.toNat ++ y :: xs.drop i.toNat)))
theorem ins_meets (l : Addr) (items : Array Value) (n : Nat) (x : Int) (u : Tok) (y : Value) (h0 : 0 ≤ x) (h : x < 2 ^ 63) (hs : items.size ≤ sizeLine) : Meets (Builtin.«list.insert» { pos := [Value.ref l, Value.int x u, y] }) fun x_1 R s =>
        s.heap.get? l = some { cls := Value.type "list", data := Data.seq items n } ∧
          R (Except.ok (Flow.ret Value.none)) { s with heap := s.heap.update l (Obj.mapSeq fun xs => (xs.extract 0 (min x.toNat xs.size)).push y ++ xs.extract (min x.toNat xs.size)) } := by
  have hfit : ¬(!Builtin.List.listFitsIndex x) = true := by
    have : Builtin.List.listFitsIndex x = true := by
      unfold Builtin.List.listFitsIndex
      simp
      omega
    rw [this]; exact fun z => nomatch z
  have M := AutoSeq1.list_insert_list_int_val_1 l items n x u y hfit hs
  simp only [if_neg (show ¬ x < 0 by omega)] at M
  exact M
theorem mt_insert : MtM X "list.insert" rInsert := by
  intro pins s σ H x vs v us Q I rx rv h
  obtain ⟨l, xs, i, y, rfl, rfl, hH, h0, hi, hz, q⟩ := h
  cases rx
  cases rv with
  | cons r1 rr =>
    obtain ⟨t, rfl⟩ := r1
    obtain ⟨u, rfl, ru⟩ := Vals.one rr
    obtain ⟨z, its, n, r, hl, e⟩ := I.lstM hH
    have hsz : its.toArray.size ≤ sizeLine := by rw [List.size_toArray]; omega
    have hb : i < 2 ^ 63 := by
      have : sizeLine = 2 ^ 24 := rfl
      omega
    refine call_meets F.slot_list_insert ⟨_, e, rfl⟩ F.entry_list_insert (F.args_list_insert_3 (.ref l) (.int i t) u) (ins_meets l its.toArray n i t u h0 hb hsz) ⟨e, ?_⟩
    refine ⟨.non, _, I.lset (its' := its.take i.toNat ++ u :: its.drop i.toNat) hH e ?_ ((r.take _).append (.cons ru (r.drop _))) ?_, rfl, q⟩
    · have g : min i.toNat its.length = i.toNat := by omega
      simp [g]
      exact List.take_of_length_le (by simp)
    · simp; omega
end
end L2
set_option maxHeartbeats 4000000
namespace L2
open PySem PySem.Spec PyProof.Rows
section
variable {X : Cx}
noncomputable def Smk (i : Int) : Prop := i.natAbs < 2 ^ 8900
theorem Smk.bits {i : Int} (h : Smk i) : Builtin.Int.intBits i ≤ 8900 := intBits_le_iff.mpr h
theorem mulOk_smk {i j : Int} (hi : Smk i) (hj : Smk j) : IntMulOk i j := by
  have h1 := hi.bits
  have h2 := hj.bits
  unfold IntMulOk Builtin.Int.intTooBig
  intro h
  have h4 := of_decide_eq_true (Bool.and_eq_true_iff.mp h).2
  rw [bitsLine_eq] at h4
  omega
theorem noPy_smk {i j : Int} (hj : Smk j) : Builtin.divisionGoesByPylong i j = false := by
  refine PyProof.noPylong_of_log2 ?_
  by_cases h0 : j.natAbs = 0
  · rw [h0]; decide +kernel
  · have h : j.natAbs.log2 < 8900 := (Nat.log2_lt h0).mpr hj
    omega
theorem op_mulK : OpR X (binaryOp .Mult) (rI (fun i j => Smk i ∧ Smk j) fun i j => .int (i * j)) := opI fun _ _ _ _ _ _ _ hc q => mul_int q (mulOk_smk hc.1 hc.2)
theorem op_fdivK : OpR X (binaryOp .FloorDiv) (rI (fun _ j => j ≠ 0 ∧ Smk j) fun i j => .int (i.fdiv j)) := opI fun _ _ _ _ _ _ _ hc q => floordiv_int hc.1 q (.inl (noPy_smk hc.2))
end
section
variable {X : Cx} {N' : List Str} {scope : Scope} {cl : List (Str × Addr)} {C : Addr} {s3 : Shared} {H3 : Hp} {fp : List Addr}
theorem ix_listC : IxR (cxComp X N' scope cl C s3 H3 fp) (rIxL X.K) := ix_list
end
theorem Rd.same {H H' : Hp} {a : Addr} {u : HO} (e : Same H H') (h : Rd H a u) : Rd H' a u := by
  rcases h with h | ⟨o, h⟩
  · exact .inl (e a _ h)
  · exact .inr ⟨o, e a _ h⟩
theorem Same.tup {K : PySem.W.Frag} {H H' : Hp} {a : Addr} {xs : List V} (e : Same H H') (h : SqT K H a xs) : SqT K H' a xs := by
  rcases h with h | h
  · exact .inl (h.same e)
  · exact .inr h
theorem same_upd {H1 H2 : Hp} {D : Addr} {o : HO} (h : Same H1 H2) (hD : H1 D = none) : Same H1 (upd H2 D o) := fun b u e => by
  rw [upd_ne (ne_of_none e hD)]; exact h b u e
theorem comp_rangeG {lo : Int} {n : Nat} {te : TE} {st : St} {H1 : Hp} {Q : VK} {D : Addr} (f : Nat → V) (hD : H1 D = none) (hn : n ≤ sizeLine)
    (hs : ∀ (i : Nat) (H2 : Hp) (k : VK), i < n → Same H1 H2 → (∀ H4, Same H2 H4 → k (f i) H4) → te (some (.int (lo + i)) :: st) H2 k)
    (hd : ∀ H2, Same H1 H2 → H2 D = some (.lst ((List.range n).map f)) → Q (.ref D) H2) : CompG (Itr lo n) (gName 0) tYes te 1 st D H1 Q := by
  refine ⟨fun i m ys H2 => m = n - i ∧ i ≤ n ∧ ys = (List.range i).map f ∧ Same H1 H2 ∧ H2 D = some (.lst ys), ⟨n, by simp, Nat.zero_le _, rfl, same_upd (Same.refl H1) hD, upd_same⟩, ?_⟩
  rintro i m ys H2 ⟨rfl, hi, rfl, sm, e⟩
  by_cases hlt : i < n
  · refine .inr ⟨hlt, ?_⟩
    rintro x H3 σ0 ⟨rfl, rfl⟩ l0
    obtain ⟨a, rfl⟩ : ∃ a, σ0 = [a] := by
      match σ0, l0 with
      | [a], _ => exact ⟨a, rfl⟩
    refine ⟨⟨[some (.int (lo + i))], rfl, rfl⟩, ?_⟩
    have ln : ((List.range i).map f).length = i := by rw [List.length_map, List.length_range]
    refine hs i _ _ hlt sm fun H4 s4 => ⟨s4 _ _ e, by rw [ln]; omega, n - (i + 1), by omega, rfl, hlt, ?_, same_upd (sm.trans s4) hD, upd_same⟩
    rw [List.range_succ, List.map_append] <;> rfl
  · have ei : i = n := by omega
    subst ei
    exact .inl ⟨Nat.le_refl _, hd _ sm e⟩
theorem comp_listF {K : PySem.W.Frag} {l : Addr} {xs : List V} {te : TE} {tt : TT} {st : St} {H1 : Hp} {Q : VK} {D : Addr} (p : V → Bool) (f : V → V) (hD : H1 D = none) (q1 : SqL K H1 l xs) (hn : xs.length ≤ sizeLine)
    (ht : ∀ (i : Nat) (x : V) (H2 : Hp) (k : Bool → Hp → Prop), xs[i]? = some x → Same H1 H2 → (∀ H4, Same H2 H4 → k (p x) H4) → tt (some x :: st) H2 k)
    (hs : ∀ (i : Nat) (x : V) (H2 : Hp) (k : VK), xs[i]? = some x → p x = true → Same H1 H2 → (∀ H4, Same H2 H4 → k (f x) H4) → te (some x :: st) H2 k)
    (hd : ∀ H2, Same H1 H2 → H2 D = some (.lst ((xs.filter p).map f)) → Q (.ref D) H2) : CompG (Itl K l) (gName 0) tt te 1 st D H1 Q := by
  refine ⟨fun i m zs H2 => m = xs.length - i ∧ i ≤ xs.length ∧ zs = ((xs.take i).filter p).map f ∧ Same H1 H2 ∧ H2 D = some (.lst zs), ⟨xs.length, by simp, Nat.zero_le _, by simp, same_upd (Same.refl H1) hD, upd_same⟩, ?_⟩
  rintro i m zs H2 ⟨rfl, hi, rfl, sm, e⟩
  by_cases hlt : i < xs.length
  · have ex : xs[i]? = some xs[i] := List.getElem?_eq_getElem hlt
    refine .inr ⟨⟨xs, _, sm.seq q1, ex⟩, ?_⟩
    rintro x H3 σ0 ⟨rfl, hx⟩ l0
    have hx' := hx xs (sm.seq q1)
    obtain ⟨a, rfl⟩ : ∃ a, σ0 = [a] := by
      match σ0, l0 with
      | [a], _ => exact ⟨a, rfl⟩
    refine ⟨⟨[some x], rfl, rfl⟩, ?_⟩
    refine ht i x _ _ hx' sm fun H4 s4 => ?_
    have tk : xs.take (i + 1) = xs.take i ++ [x] := by rw [List.take_add_one, hx']; rfl
    have ln : (((xs.take i).filter p).map f).length ≤ i := by
      rw [List.length_map]; exact Nat.le_trans (List.length_filter_le _ _) (by simp; omega)
    cases hp : p x with
    | true =>
      rw [if_pos rfl]
      refine hs i x _ _ hx' hp (sm.trans s4) fun H5 s5 => ⟨s5 _ _ (s4 _ _ e), by omega, xs.length - (i + 1), by omega, rfl, hlt, ?_, same_upd (sm.trans (s4.trans s5)) hD, upd_same⟩
      rw [tk, List.filter_append, List.map_append]
      simp [hp]
    | false =>
      rw [if_neg Bool.false_ne_true]
      refine ⟨xs.length - (i + 1), by omega, rfl, hlt, ?_, sm.trans s4, s4 _ _ e⟩
      rw [tk, List.filter_append, List.map_append]
      simp [hp]
  · have ei : i = xs.length := by omega
    subst ei
    refine .inl ⟨⟨xs, sm.seq q1, Nat.le_refl _⟩, hd _ sm ?_⟩
    rw [e, List.take_of_length_le (Nat.le_refl _)]
end L2
set_option maxHeartbeats 4000000
namespace L2
open PySem PySem.Spec PyProof.Rows
mutual
noncomputable def eqTh : Th → Th → Bool
  | .int i, .int j => i == j
  | .str x, .str y => x == y
  | .non, .non => true
  | .tup ts, .tup us => eqThs ts us
  | .lst ts, .lst us => eqThs ts us
  | _, _ => false
noncomputable def eqThs : List Th → List Th → Bool
  | [], [] => true
  | t :: ts, u :: us => eqTh t u && eqThs ts us
  | _, _ => false
end
mutual
noncomputable def cmpTh : Th → Th → Bool
  | .int _, .int _ => true
  | .str _, .str _ => true
  | .non, .non => true
  | .tup ts, .tup us => cmpThs ts us
  | .lst ts, .lst us => cmpThs ts us && ts.length == us.length
  | _, _ => false
noncomputable def cmpThs : List Th → List Th → Bool
  | t :: ts, u :: us => cmpTh t u && cmpThs ts us
  | _, _ => true
end
theorem cmpThs_at : ∀ {ts us : List Th} {j : Nat} {t u : Th}, cmpThs ts us = true → ts[j]? = some t → us[j]? = some u → cmpTh t u = true
  | t0 :: ts, u0 :: us, 0, t, u, h, e1, e2 => by
    rw [List.getElem?_cons_zero] at e1 e2
    cases e1; cases e2
    simp only [cmpThs, Bool.and_eq_true] at h
    exact h.1
  | t0 :: ts, u0 :: us, j + 1, t, u, h, e1, e2 => by
    rw [List.getElem?_cons_succ] at e1 e2
    simp only [cmpThs, Bool.and_eq_true] at h
    exact cmpThs_at h.2 e1 e2
noncomputable def eqAtJ (ts us : List Th) (j : Nat) : Bool := match ts[j]?, us[j]? with
  | some t, some u => eqTh t u
  | _, _ => true
theorem eqThs_all : ∀ (ts us : List Th), ((List.range (min ts.length us.length)).all (eqAtJ ts us) && ts.length == us.length) = eqThs ts us
  | [], [] => by simp [eqThs]
  | [], u :: us => by simp [eqThs]
  | t :: ts, [] => by simp [eqThs]
  | t :: ts, u :: us => by
    have ih := eqThs_all ts us
    have e1 : min (t :: ts).length (u :: us).length = min ts.length us.length + 1 := by simp only [List.length_cons]; omega
    have e2 : ((t :: ts).length == (u :: us).length) = (ts.length == us.length) := by
      simp only [List.length_cons]
      cases h : ts.length == us.length
      · have : ts.length ≠ us.length := by simpa using h
        simp; omega
      · have : ts.length = us.length := by simpa using h
        simp [this]
    rw [e1, e2, List.range_succ_eq_map, List.all_cons, List.all_map]
    have e3 : eqAtJ (t :: ts) (u :: us) 0 = eqTh t u := by simp [eqAtJ]
    have e4 : (eqAtJ (t :: ts) (u :: us) ∘ Nat.succ) = eqAtJ ts us := by
      funext j
      simp [eqAtJ, Function.comp]
    rw [e3, e4, eqThs, ← ih, Bool.and_assoc]
mutual
theorem eqTh_refl : ∀ {t : Th}, cmpTh t t = true → eqTh t t = true
  | .int i, _ => by simp [eqTh]
  | .str x, _ => by simp [eqTh]
  | .non, _ => by simp [eqTh]
  | .tup ts, h => by rw [cmpTh] at h; rw [eqTh]; exact eqThs_refl h
  | .lst ts, h => by rw [cmpTh, Bool.and_eq_true] at h; rw [eqTh]; exact eqThs_refl h.1
  | .bl b, h => by simp [cmpTh] at h
  | .emp, h => by simp [cmpTh] at h
  | .dic, h => by simp [cmpTh] at h
theorem eqThs_refl : ∀ {ts : List Th}, cmpThs ts ts = true → eqThs ts ts = true
  | [], _ => by simp [eqThs]
  | t :: ts, h => by
    rw [cmpThs, Bool.and_eq_true] at h
    rw [eqThs, Bool.and_eq_true]
    exact ⟨eqTh_refl h.1, eqThs_refl h.2⟩
end
theorem cmp_int {i : Int} {u : Th} (c : cmpTh (.int i) u = true) : ∃ j, u = .int j := by cases u <;> first | exact ⟨_, rfl⟩ | cases c
theorem cmp_str {i : Str} {u : Th} (c : cmpTh (.str i) u = true) : ∃ j, u = .str j := by cases u <;> first | exact ⟨_, rfl⟩ | cases c
theorem cmp_non {u : Th} (c : cmpTh .non u = true) : u = .non := by cases u <;> first | rfl | cases c
theorem cmp_tup {i : List Th} {u : Th} (c : cmpTh (.tup i) u = true) : ∃ j, u = .tup j := by cases u <;> first | exact ⟨_, rfl⟩ | cases c
theorem cmp_lst {i : List Th} {u : Th} (c : cmpTh (.lst i) u = true) : ∃ j, u = .lst j := by cases u <;> first | exact ⟨_, rfl⟩ | cases c
theorem cmp_bl {b : Bool} {u : Th} (c : cmpTh (.bl b) u = true) : False := by cases u <;> cases c
theorem cmp_emp {u : Th} (c : cmpTh .emp u = true) : False := by cases u <;> cases c
theorem cmp_dic {u : Th} (c : cmpTh .dic u = true) : False := by cases u <;> cases c
mutual
theorem Den.inj {H : Hp} : ∀ {t u : Th} {v : V}, cmpTh t u = true → Den H t v → Den H u v → t = u
  | .bl _, u, v, c, d1, d2 => (cmp_bl c).elim
  | .emp, u, v, c, d1, d2 => (cmp_emp c).elim
  | .dic, u, v, c, d1, d2 => (cmp_dic c).elim
  | .int i, u, v, c, d1, d2 => by
    obtain ⟨j, rfl⟩ := cmp_int c
    cases (show v = V.int i from d1); cases (show V.int i = V.int j from d2); rfl
  | .str i, u, v, c, d1, d2 => by
    obtain ⟨j, rfl⟩ := cmp_str c
    cases (show v = V.str i from d1); cases (show V.str i = V.str j from d2); rfl
  | .non, u, v, c, d1, d2 => (cmp_non c).symm
  | .tup ts, u, v, c, d1, d2 => by
    obtain ⟨us, rfl⟩ := cmp_tup c
    obtain ⟨a1, xs, rfl, h1, e1⟩ := d1
    obtain ⟨a2, ys, e0, h2, e2⟩ := d2
    cases e0
    rw [h1] at h2
    cases h2
    rw [cmpTh] at c
    rw [Dens.inj c e1 e2]
  | .lst ts, u, v, c, d1, d2 => by
    obtain ⟨us, rfl⟩ := cmp_lst c
    obtain ⟨a1, xs, rfl, h1, e1⟩ := d1
    obtain ⟨a2, ys, e0, h2, e2⟩ := d2
    cases e0
    rw [h1] at h2
    cases h2
    rw [cmpTh, Bool.and_eq_true] at c
    rw [Dens.inj c.1 e1 e2]
theorem Dens.inj {H : Hp} : ∀ {ts us : List Th} {xs : List V}, cmpThs ts us = true → Dens H ts xs → Dens H us xs → ts = us
  | [], [], _, _, _, _ => rfl
  | [], u :: us, xs, _, d1, d2 => by
    have e1 := d1.len
    have e2 := d2.len
    simp at e1 e2
    rw [e1] at e2
    simp at e2
  | t :: ts, [], xs, _, d1, d2 => by
    have e1 := d1.len
    have e2 := d2.len
    simp at e1 e2
    rw [e2] at e1
    simp at e1
  | t :: ts, u :: us, xs, c, d1, d2 => by
    obtain ⟨x, r, rfl, p1, q1⟩ := d1
    obtain ⟨x', r', e, p2, q2⟩ := d2
    cases e
    rw [cmpThs, Bool.and_eq_true] at c
    rw [Den.inj c.1 p1 p2, Dens.inj c.2 q1 q2]
end
theorem dens2_at {H : Hp} {ts us : List Th} {xs ys : List V} {vs ws : List Value} (d1 : Dens H ts xs) (d2 : Dens H us ys) (r1 : Vals xs vs) (r2 : Vals ys ws) (j : Nat) (h1 : j < vs.toArray.size) (h2 : j < ws.toArray.size) :
    ∃ t u v1 v2, ts[j]? = some t ∧ us[j]? = some u ∧ Den H t v1 ∧ Den H u v2 ∧ RelV v1 vs.toArray[j] ∧ RelV v2 ws.toArray[j] := by
  have l1 : j < ts.length := by rw [← d1.len, r1.length]; simpa using h1
  have l2 : j < us.length := by rw [← d2.len, r2.length]; simpa using h2
  obtain ⟨v1, e1, q1⟩ := d1.get (List.getElem?_eq_getElem l1)
  obtain ⟨v2, e2, q2⟩ := d2.get (List.getElem?_eq_getElem l2)
  obtain ⟨u1, f1, g1⟩ := r1.get e1
  obtain ⟨u2, f2, g2⟩ := r2.get e2
  have k1 : vs.toArray[j] = u1 := by
    have : vs[j]? = some vs.toArray[j] := by simp
    rw [this] at f1; exact Option.some.inj f1
  have k2 : ws.toArray[j] = u2 := by
    have : ws[j]? = some ws.toArray[j] := by simp
    rw [this] at f2; exact Option.some.inj f2
  exact ⟨_, _, v1, v2, List.getElem?_eq_getElem l1, List.getElem?_eq_getElem l2, q1, q2, by rw [k1]; exact g1, by rw [k2]; exact g2⟩
noncomputable def EqIH (H : Hp) (s : Shared) (n : Nat) : Prop := ∀ (A : Around) (t u : Th) (v1 v2 : V) (u1 u2 : Value), depT t ≤ n → A.units + n < cLine → cmpTh t u = true → Den H t v1 → Den H u v2 → RelV v1 u1 → RelV v2 u2 → SeqAt.EqAt A s u1 u2 (eqTh t u)
theorem eqQ_tup {P : Program} {w : World} {H : Hp} {s : Shared} (hok : HOk P w H s.heap) {n : Nat} (ih : EqIH H s n) {A : Around} {ts us : List Th} {v1 v2 : V} {u1 u2 : Value} (hd' : depTs ts ≤ n) (hu : A.units + (n + 1) < cLine) (hc : cmpTh (.tup ts) (.tup us) = true)
    (d1 : Den H (.tup ts) v1) (d2 : Den H (.tup us) v2) (r1 : RelV v1 u1) (r2 : RelV v2 u2) : SeqAt.EqAt A s u1 u2 (eqTh (.tup ts) (.tup us)) := by
  by_cases hv : v1 = v2
  · subst hv
    have e := Den.inj hc d1 d2
    cases e
    rw [eqTh_refl hc]
    obtain ⟨a1, xs, rfl, h1, e1⟩ := d1
    cases (show u1 = Value.ref a1 from r1); cases (show u2 = Value.ref a1 from r2)
    exact SeqAt.EqAt.same _
  obtain ⟨a1, xs, rfl, h1, e1⟩ := d1
  obtain ⟨a2, ys, rfl, h2, e2⟩ := d2
  have hne : a1 ≠ a2 := fun z => hv (by rw [z])
  cases (show u1 = Value.ref a1 from r1); cases (show u2 = Value.ref a2 from r2)
  obtain ⟨_, ws1, q1, g1⟩ := (show ObjOk P w H s.heap a1 (.tup xs) from hok a1 _ h1)
  obtain ⟨_, ws2, q2, g2⟩ := (show ObjOk P w H s.heap a2 (.tup ys) from hok a2 _ h2)
  have z1 : ws1.toArray.size = ts.length := by rw [List.size_toArray, ← q1.length, e1.len]
  have z2 : ws2.toArray.size = us.length := by rw [List.size_toArray, ← q2.length, e2.len]
  rw [cmpTh] at hc
  have h := SeqAt.RcAt.tuples (A := A) (s := s) (e := eqAtJ ts us) (show s.heap.IsTuple a1 ws1.toArray from g1) (show s.heap.IsTuple a2 ws2.toArray from g2) (by omega) fun j j1 j2 => by
    obtain ⟨t, u, w1, w2, ht, hu', p1, p2, s1, s2⟩ := dens2_at e1 e2 q1 q2 j j1 j2
    have e : eqAtJ ts us j = eqTh t u := by unfold eqAtJ; rw [ht, hu']
    rw [e]
    exact ih A.in1 t u w1 w2 _ _ (by have := depTs_mem ht; omega) (by show A.units + 1 + n < cLine; omega) (cmpThs_at hc ht hu') p1 p2 s1 s2
  rw [z1, z2, eqThs_all] at h
  rw [eqTh]
  exact SeqAt.EqAt.of_refs hne h
theorem eqQ_lst {P : Program} {w : World} {H : Hp} {s : Shared} (hok : HOk P w H s.heap) {n : Nat} (ih : EqIH H s n) {A : Around} {ts us : List Th} {v1 v2 : V} {u1 u2 : Value} (hd' : depTs ts ≤ n) (hu : A.units + (n + 1) < cLine) (hc : cmpTh (.lst ts) (.lst us) = true)
    (d1 : Den H (.lst ts) v1) (d2 : Den H (.lst us) v2) (r1 : RelV v1 u1) (r2 : RelV v2 u2) : SeqAt.EqAt A s u1 u2 (eqTh (.lst ts) (.lst us)) := by
  by_cases hv : v1 = v2
  · subst hv
    have e := Den.inj hc d1 d2
    cases e
    rw [eqTh_refl hc]
    obtain ⟨a1, xs, rfl, h1, e1⟩ := d1
    cases (show u1 = Value.ref a1 from r1); cases (show u2 = Value.ref a1 from r2)
    exact SeqAt.EqAt.same _
  obtain ⟨a1, xs, rfl, h1, e1⟩ := d1
  obtain ⟨a2, ys, rfl, h2, e2⟩ := d2
  have hne : a1 ≠ a2 := fun z => hv (by rw [z])
  cases (show u1 = Value.ref a1 from r1); cases (show u2 = Value.ref a2 from r2)
  obtain ⟨_, ws1, n1, q1, g1⟩ := (show ObjOk P w H s.heap a1 (.lst xs) from hok a1 _ h1)
  obtain ⟨_, ws2, n2, q2, g2⟩ := (show ObjOk P w H s.heap a2 (.lst ys) from hok a2 _ h2)
  have z1 : ws1.toArray.size = ts.length := by rw [List.size_toArray, ← q1.length, e1.len]
  have z2 : ws2.toArray.size = us.length := by rw [List.size_toArray, ← q2.length, e2.len]
  rw [cmpTh, Bool.and_eq_true] at hc
  have hl : ts.length = us.length := by simpa using hc.2
  have h := SeqAt.RcAt.lists (A := A) (s := s) (e := eqAtJ ts us) (⟨_, g1, rfl, _, rfl⟩ : s.heap.IsList a1 ws1.toArray) (⟨_, g2, rfl, _, rfl⟩ : s.heap.IsList a2 ws2.toArray) (by rw [z1, z2, hl]) (by omega) fun j j1 j2 => by
    obtain ⟨t, u, w1, w2, ht, hu', p1, p2, s1, s2⟩ := dens2_at e1 e2 q1 q2 j j1 j2
    have e : eqAtJ ts us j = eqTh t u := by unfold eqAtJ; rw [ht, hu']
    rw [e]
    exact ih A.in1 t u w1 w2 _ _ (by have := depTs_mem ht; omega) (by show A.units + 1 + n < cLine; omega) (cmpThs_at hc.1 ht hu') p1 p2 s1 s2
  have ha := eqThs_all ts us
  rw [hl, Nat.min_self, beq_self_eq_true, Bool.and_true] at ha
  rw [z1, hl, ha] at h
  rw [eqTh]
  exact SeqAt.EqAt.of_refs hne h
theorem eqQ {P : Program} {w : World} {H : Hp} {s : Shared} (hok : HOk P w H s.heap) (n : Nat) : EqIH H s n := by
  induction n with
  | zero =>
    intro A t u v1 v2 u1 u2 hd hu hc d1 d2 r1 r2
    cases t with
    | int i => cases u with
      | int j =>
        cases (show v1 = V.int i from d1); cases (show v2 = V.int j from d2)
        obtain ⟨k1, rfl⟩ := (show ∃ k, u1 = Value.int i k from r1)
        obtain ⟨k2, rfl⟩ := (show ∃ k, u2 = Value.int j k from r2)
        rw [eqTh]
        exact SeqAt.EqAt.int_int (A := A) (s := s) i k1 j k2
      | _ => simp [cmpTh] at hc
    | str i => cases u with
      | str j =>
        cases (show v1 = V.str i from d1); cases (show v2 = V.str j from d2)
        obtain ⟨k1, rfl⟩ := (show ∃ k, u1 = Value.str i k from r1)
        obtain ⟨k2, rfl⟩ := (show ∃ k, u2 = Value.str j k from r2)
        rw [eqTh]
        exact SeqAt.EqAt.str_str (A := A) (s := s) i k1 j k2
      | _ => simp [cmpTh] at hc
    | non => cases u with
      | non =>
        cases (show v1 = V.non from d1); cases (show v2 = V.non from d2)
        cases (show u1 = Value.none from r1); cases (show u2 = Value.none from r2)
        rw [eqTh]
        exact SeqAt.EqAt.same _
      | _ => simp [cmpTh] at hc
    | tup ts => simp [depT] at hd
    | lst ts => simp [depT] at hd
    | bl b => simp [cmpTh] at hc
    | emp => simp [cmpTh] at hc
    | dic => simp [cmpTh] at hc
  | succ n ih =>
    intro A t u v1 v2 u1 u2 hd hu hc d1 d2 r1 r2
    cases t with
    | int i => exact ih A _ u v1 v2 u1 u2 (by simp [depT]) (by omega) hc d1 d2 r1 r2
    | str i => exact ih A _ u v1 v2 u1 u2 (by simp [depT]) (by omega) hc d1 d2 r1 r2
    | non => exact ih A _ u v1 v2 u1 u2 (by simp [depT]) (by omega) hc d1 d2 r1 r2
    | tup ts => cases u with
      | tup us => exact eqQ_tup hok ih (by simp [depT] at hd; omega) hu hc d1 d2 r1 r2
      | _ => simp [cmpTh] at hc
    | lst ts => cases u with
      | lst us => exact eqQ_lst hok ih (by simp [depT] at hd; omega) hu hc d1 d2 r1 r2
      | _ => simp [cmpTh] at hc
    | bl b => simp [cmpTh] at hc
    | emp => simp [cmpTh] at hc
    | dic => simp [cmpTh] at hc
section
variable {X : Cx}
end
theorem subL {cs : List (Str × Addr)} : ∀ {l : List (Str × Addr)}, (∀ p ∈ l, cs.lookup p.1 = some p.2) → ∀ (y : Str) (c : Addr), l.lookup y = some c → cs.lookup y = some c
  | [], _, y, c, h => by cases h
  | p :: l, k, y, c, h => by
    rw [List.lookup_cons] at h
    by_cases e : (y == p.1) = true
    · rw [e] at h
      have h' : p.2 = c := Option.some.inj h
      have ey : y = p.1 := beq_iff_eq.mp e
      rw [ey, ← h']
      exact k p (List.mem_cons_self ..)
    · have e' : (y == p.1) = false := Bool.eq_false_iff.mpr e
      rw [e'] at h
      exact subL (fun q hq => k q (List.mem_cons_of_mem _ hq)) y c h
theorem sub2 {cs : List (Str × Addr)} {x1 x2 : Str} {c1 c2 : Addr} (h1 : cs.lookup x1 = some c1) (h2 : cs.lookup x2 = some c2) : ∀ (y : Str) (c : Addr), List.lookup y [(x1, c1), (x2, c2)] = some c → cs.lookup y = some c :=
  subL fun p hp => by
    simp only [List.mem_cons, List.not_mem_nil, or_false] at hp
    rcases hp with rfl | rfl <;> assumption
end L2
set_option maxHeartbeats 4000000
namespace L2
open PySem PySem.Spec PyProof.Rows
theorem comp_pairF {α : Type} {K : PySem.W.Frag} {a : Addr} {xs : List V} {te : TE} {tt : TT} {st : St} {H1 : Hp} {Q : VK} {D : Addr} (ps : List α) (p : α → Bool) (R : α → V → V → Prop) (hD : H1 D = none) (q1 : SqT K H1 a xs) (hl : xs.length = ps.length) (hn : xs.length ≤ sizeLine)
    (hx : ∀ (i : Nat) (h : α), ps[i]? = some h → ∃ b u v, xs[i]? = some (.ref b) ∧ H1 b = some (.tup [u, v]) ∧ R h u v)
    (ht : ∀ (h : α) (u v : V) (H2 : Hp) (k : Bool → Hp → Prop), R h u v → Same H1 H2 → (∀ H4, Same H2 H4 → k (p h) H4) → tt (some u :: some v :: st) H2 k)
    (hs : ∀ (h : α) (u v : V) (H2 : Hp) (k : VK), R h u v → Same H1 H2 → (∀ x H4, Same H2 H4 → k x H4) → te (some u :: some v :: st) H2 k)
    (hd : ∀ H2 ys, Same H1 H2 → H2 D = some (.lst ys) → ys.length = (ps.filter p).length → Q (.ref D) H2) : CompG (Itt K a) (gTup K 2 (gCons (gName 0) (gCons (gName 1) gNil))) tt te 2 st D H1 Q := by
  refine ⟨fun i m zs H2 => m = xs.length - i ∧ i ≤ xs.length ∧ zs.length = ((ps.take i).filter p).length ∧ Same H1 H2 ∧ H2 D = some (.lst zs), ⟨xs.length, by simp, Nat.zero_le _, by simp, same_upd (Same.refl H1) hD, upd_same⟩, ?_⟩
  rintro i m zs H2 ⟨rfl, hi, hz, sm, e⟩
  by_cases hlt : i < xs.length
  · have ex : xs[i]? = some xs[i] := List.getElem?_eq_getElem hlt
    obtain ⟨h, ep⟩ : ∃ h, ps[i]? = some h := ⟨_, List.getElem?_eq_getElem (show i < ps.length by omega)⟩
    obtain ⟨b, u, v, e1, e2, r⟩ := hx i h ep
    refine .inr ⟨⟨xs, _, sm.tup q1, ex⟩, ?_⟩
    rintro x H3 σ0 ⟨rfl, hx'⟩ l0
    have hx2 := hx' xs (sm.tup q1)
    rw [e1] at hx2
    cases hx2
    obtain ⟨a', b', rfl⟩ : ∃ a b, σ0 = [a, b] := by
      match σ0, l0 with
      | [a, b], _ => exact ⟨a, b, rfl⟩
    refine ⟨b, [u, v], rfl, SqT.of (sm _ _ e2), rfl, u, [v], rfl, v, [], rfl, rfl, ⟨[some u, some v], rfl, rfl⟩, ?_⟩
    have tk : ps.take (i + 1) = ps.take i ++ [h] := by rw [List.take_add_one, ep]; rfl
    have ln : ((ps.take i).filter p).length ≤ i := Nat.le_trans (List.length_filter_le _ _) (by simp; omega)
    refine ht h u v _ _ r sm fun H4 s4 => ?_
    cases hp : p h with
    | true =>
      rw [if_pos rfl]
      refine hs h u v _ _ r (sm.trans s4) fun y H5 s5 => ⟨s5 _ _ (s4 _ _ e), by omega, xs.length - (i + 1), by omega, rfl, hlt, ?_, same_upd (sm.trans (s4.trans s5)) hD, upd_same⟩
      rw [tk, List.filter_append]
      simp [hp, hz]
    | false =>
      rw [if_neg Bool.false_ne_true]
      refine ⟨xs.length - (i + 1), by omega, rfl, hlt, ?_, sm.trans s4, s4 _ _ e⟩
      rw [tk, List.filter_append]
      simp [hp, hz]
  · have ei : i = xs.length := by omega
    subst ei
    refine .inl ⟨⟨xs, sm.tup q1, Nat.le_refl _⟩, hd _ zs sm e ?_⟩
    rw [hz, List.take_of_length_le (by omega)]
theorem comp_listC {α : Type} {K : PySem.W.Frag} {a : Addr} {xs : List V} {te : TE} {tt : TT} {st : St} {H1 : Hp} {Q : VK} {D : Addr} (ps : List α) (p : α → Bool) (R : α → V → Prop) (hD : H1 D = none) (q1 : SqL K H1 a xs) (hl : xs.length = ps.length) (hn : xs.length ≤ sizeLine)
    (hx : ∀ (i : Nat) (h : α), ps[i]? = some h → ∃ u, xs[i]? = some u ∧ R h u)
    (ht : ∀ (h : α) (u : V) (H2 : Hp) (k : Bool → Hp → Prop), R h u → Same H1 H2 → (∀ H4, Same H2 H4 → k (p h) H4) → tt (some u :: st) H2 k)
    (hs : ∀ (h : α) (u : V) (H2 : Hp) (k : VK), R h u → Same H1 H2 → (∀ x H4, Same H2 H4 → k x H4) → te (some u :: st) H2 k)
    (hd : ∀ H2 ys, Same H1 H2 → H2 D = some (.lst ys) → ys.length = (ps.filter p).length → Q (.ref D) H2) : CompG (Itl K a) (gName 0) tt te 1 st D H1 Q := by
  refine ⟨fun i m zs H2 => m = xs.length - i ∧ i ≤ xs.length ∧ zs.length = ((ps.take i).filter p).length ∧ Same H1 H2 ∧ H2 D = some (.lst zs), ⟨xs.length, by simp, Nat.zero_le _, by simp, same_upd (Same.refl H1) hD, upd_same⟩, ?_⟩
  rintro i m zs H2 ⟨rfl, hi, hz, sm, e⟩
  by_cases hlt : i < xs.length
  · have ex : xs[i]? = some xs[i] := List.getElem?_eq_getElem hlt
    obtain ⟨h, ep⟩ : ∃ h, ps[i]? = some h := ⟨_, List.getElem?_eq_getElem (show i < ps.length by omega)⟩
    obtain ⟨u, e1, r⟩ := hx i h ep
    refine .inr ⟨⟨xs, _, sm.seq q1, ex⟩, ?_⟩
    rintro x H3 σ0 ⟨rfl, hx'⟩ l0
    have hx2 := hx' xs (sm.seq q1)
    rw [e1] at hx2
    cases hx2
    obtain ⟨a', rfl⟩ : ∃ a, σ0 = [a] := by
      match σ0, l0 with
      | [a], _ => exact ⟨a, rfl⟩
    refine ⟨⟨[some u], rfl, rfl⟩, ?_⟩
    have tk : ps.take (i + 1) = ps.take i ++ [h] := by rw [List.take_add_one, ep]; rfl
    have ln : ((ps.take i).filter p).length ≤ i := Nat.le_trans (List.length_filter_le _ _) (by simp; omega)
    refine ht h u _ _ r sm fun H4 s4 => ?_
    cases hp : p h with
    | true =>
      rw [if_pos rfl]
      refine hs h u _ _ r (sm.trans s4) fun y H5 s5 => ⟨s5 _ _ (s4 _ _ e), by omega, xs.length - (i + 1), by omega, rfl, hlt, ?_, same_upd (sm.trans (s4.trans s5)) hD, upd_same⟩
      rw [tk, List.filter_append]
      simp [hp, hz]
    | false =>
      rw [if_neg Bool.false_ne_true]
      refine ⟨xs.length - (i + 1), by omega, rfl, hlt, ?_, sm.trans s4, s4 _ _ e⟩
      rw [tk, List.filter_append]
      simp [hp, hz]
  · have ei : i = xs.length := by omega
    subst ei
    refine .inl ⟨⟨xs, sm.seq q1, Nat.le_refl _⟩, hd _ zs sm e ?_⟩
    rw [hz, List.take_of_length_le (by omega)]
theorem comp_zipR {K : PySem.W.Frag} {l1 l2 : Addr} {xs ys : List V} {te : TE} {st : St} {H1 : Hp} {Q : VK} {D : Addr} {n : Nat} (R : Nat → List V → Hp → Prop) (hD : H1 D = none) (q1 : SqL K H1 l1 xs) (q2 : SqL K H1 l2 ys) (n1 : n ≤ xs.length) (n2 : n ≤ ys.length) (ne : xs.length = n ∨ ys.length = n) (hn : n ≤ sizeLine) (h0 : R 0 [] (upd H1 D (.lst [])))
    (hs : ∀ (i : Nat) (x y : V) (zs : List V) (H2 H3 : Hp) (k : VK), i < n → xs[i]? = some x → ys[i]? = some y → Same H1 H2 → Same H2 H3 → H2 D = some (.lst zs) → R i zs H2 → (∀ z H4, Same H3 H4 → R (i + 1) (zs ++ [z]) (upd H4 D (.lst (zs ++ [z]))) → k z H4) → te (some x :: some y :: st) H3 k)
    (hd : ∀ zs H2, Same H1 H2 → H2 D = some (.lst zs) → zs.length = n → R n zs H2 → Q (.ref D) H2) : CompG (Itz K l1 l2) (gTup K 2 (gCons (gName 0) (gCons (gName 1) gNil))) tYes te 2 st D H1 Q := by
  refine ⟨fun i m zs H2 => m = n - i ∧ i ≤ n ∧ zs.length = i ∧ Same H1 H2 ∧ H2 D = some (.lst zs) ∧ R i zs H2, ⟨n, by simp, Nat.zero_le _, rfl, same_upd (Same.refl H1) hD, upd_same, h0⟩, ?_⟩
  rintro i m zs H2 ⟨rfl, hi, hz, sm, e, r⟩
  by_cases hlt : i < n
  · have ex : xs[i]? = some (xs[i]'(by omega)) := List.getElem?_eq_getElem (by omega)
    have ey : ys[i]? = some (ys[i]'(by omega)) := List.getElem?_eq_getElem (by omega)
    refine .inr ⟨⟨xs, ys, _, _, sm.seq q1, sm.seq q2, ex, ey⟩, ?_⟩
    rintro v H3 σ0 ⟨T, x, y, fr, rfl, rfl, hx, hy⟩ l0
    have hx' := hx xs (sm.seq q1)
    have hy' := hy ys (sm.seq q2)
    obtain ⟨a, b, rfl⟩ : ∃ a b, σ0 = [a, b] := by
      match σ0, l0 with
      | [a, b], _ => exact ⟨a, b, rfl⟩
    refine ⟨T, [x, y], rfl, SqT.of upd_same, rfl, x, [y], rfl, y, [], rfl, rfl, ⟨[some x, some y], rfl, rfl⟩, ?_⟩
    have s3 : Same H2 (upd H2 T (.tup [x, y])) := same_new fr _
    exact hs i x y zs H2 _ _ hlt hx' hy' sm s3 e r fun z H4 s4 r4 => ⟨s4 _ _ (s3 _ _ e), by omega, n - (i + 1), by omega, rfl, hlt, by simp [hz], same_upd (sm.trans (s3.trans s4)) hD, upd_same, r4⟩
  · have ei : i = n := by omega
    subst ei
    refine .inl ⟨⟨xs, ys, sm.seq q1, sm.seq q2, ?_⟩, hd zs H2 sm e hz r⟩
    rcases ne with z | z
    · exact .inl (by omega)
    · exact .inr (by omega)
theorem comp_listR {K : PySem.W.Frag} {a : Addr} {xs : List V} {te : TE} {st : St} {H1 : Hp} {Q : VK} {D : Addr} (R : Nat → List V → Hp → Prop) (hD : H1 D = none) (q1 : SqL K H1 a xs) (hn : xs.length ≤ sizeLine) (h0 : R 0 [] (upd H1 D (.lst [])))
    (hs : ∀ (i : Nat) (x : V) (ys : List V) (H2 : Hp) (k : VK), xs[i]? = some x → Same H1 H2 → H2 D = some (.lst ys) → R i ys H2 → (∀ y H4, Same H2 H4 → R (i + 1) (ys ++ [y]) (upd H4 D (.lst (ys ++ [y]))) → k y H4) → te (some x :: st) H2 k)
    (hd : ∀ ys H2, Same H1 H2 → H2 D = some (.lst ys) → ys.length = xs.length → R xs.length ys H2 → Q (.ref D) H2) : CompGo (Itl K a) te st D H1 Q := by
  refine ⟨fun i m ys H2 => m = xs.length - i ∧ i ≤ xs.length ∧ ys.length = i ∧ Same H1 H2 ∧ H2 D = some (.lst ys) ∧ R i ys H2, ⟨xs.length, by simp, Nat.zero_le _, rfl, same_upd (Same.refl H1) hD, upd_same, h0⟩, ?_⟩
  rintro i m ys H2 ⟨rfl, hi, hl, sm, e, r⟩
  by_cases hlt : i < xs.length
  · have ex : xs[i]? = some xs[i] := List.getElem?_eq_getElem hlt
    refine .inr ⟨⟨xs, _, sm.seq q1, ex⟩, ?_⟩
    rintro x H3 ⟨rfl, hx⟩
    have hx' := hx xs (sm.seq q1)
    exact hs i x ys _ _ hx' sm e r fun y H4 s4 r4 => ⟨s4 _ _ e, by omega, xs.length - (i + 1), by omega, rfl, hlt, by simp [hl], same_upd (sm.trans s4) hD, upd_same, r4⟩
  · have ei : i = xs.length := by omega
    subst ei
    exact .inl ⟨⟨xs, sm.seq q1, Nat.le_refl _⟩, hd ys H2 sm e hl r⟩
noncomputable def tDead : TS := fun _ _ _ => False
theorem ps_dead {X : Cx} {st : Stmt} : PS X st tDead := fun _ _ _ _ _ _ h => h.elim
end L2
set_option maxHeartbeats 4000000
namespace L2
open PySem PySem.Spec PyProof.Rows
section
variable {prog : Program} {w : World} {A : Around} {E : Value → Shared → Prop} {s : Shared}
theorem tnext_item {j tu : Addr} {i : Nat} {its : Array Value} {v : Value} {Q : Value → Shared → Prop} (hj : s.heap.IsTupleIter j tu i) (ht : s.heap.IsTuple tu its) (hv : its[i]? = some v)
    (k : ∀ g, g.IsTupleIter j tu (i + 1) → Heap.SameBut j s.heap g → Q v { s with heap := g }) : wpAny (model prog w) A (Builtin.SmallTypes.nextOf (.ref j)) Q E s := by
  obtain ⟨oj, ej, cj, dj⟩ := id hj
  obtain ⟨ot, et, _, nt, dt⟩ := ht
  unfold Builtin.SmallTypes.nextOf
  refine (wpAny_bind (wpAny_callSpecial?_slot (name := Str.ofString "__next__") hj.typeIs F.slot_tuple_iterator_next (wpAny_call_entry F.slot_tuple_iterator_next hj.typeIs F.entry_tuple_iterator_next ?_ (F.args_tuple_iterator_next_1 _))))
  show wpAny _ _ (field (.ref j) 0 >>= _) _ _ s
  refine (wpAny_bind (wpAny_field ej dj (x := .ref tu) rfl ?_))
  show wpAny _ _ (if (Value.ref tu == Value.none) = true then _ else _) _ _ s
  rw [if_neg (show ¬ ((Value.ref tu == Value.none) = true) from Bool.false_ne_true)]
  show wpAny _ _ (field (.ref j) 1 >>= _) _ _ s
  refine (wpAny_bind (wpAny_field ej dj (x := .int i 0) rfl ?_))
  show wpAny _ _ (seqItems? (.ref tu) >>= _) _ _ s
  refine (wpAny_bind (wpAny_seqItems et dt ?_))
  simp only [Int.toNat_natCast, hv]
  refine (wpAny_bind (wpAny_setField ej dj (by simp) (wpAny_pure ⟨v, rfl, wpAny_pure (k _ ?_ (Heap.SameBut.update ..))⟩)))
  refine ⟨_, Heap.get?_update_self _ ej (Obj.isFreed_of_fields (Obj.data_mapFields dj _)), (Obj.cls_mapFields ..).trans cj, ?_⟩
  rw [Obj.data_mapFields dj]
  simp [rawInt]
theorem tnext_end {j tu : Addr} {i : Nat} {its : Array Value} {Q : Value → Shared → Prop} (hh : A.handled = none) (hj : s.heap.IsTupleIter j tu i) (ht : s.heap.IsTuple tu its) (hv : its[i]? = none)
    (k : ∀ g e, Heap.ExtBut j s.heap g → (∃ o, g.get? e = some o ∧ o.cls = .type "StopIteration") → E (.ref e) { s with heap := g }) : wpAny (model prog w) A (Builtin.SmallTypes.nextOf (.ref j)) Q E s := by
  obtain ⟨oj, ej, cj, dj⟩ := id hj
  obtain ⟨ot, et, _, nt, dt⟩ := ht
  unfold Builtin.SmallTypes.nextOf
  refine (wpAny_bind (wpAny_callSpecial?_slot (name := Str.ofString "__next__") hj.typeIs F.slot_tuple_iterator_next (wpAny_call_entry F.slot_tuple_iterator_next hj.typeIs F.entry_tuple_iterator_next ?_ (F.args_tuple_iterator_next_1 _))))
  show wpAny _ _ (field (.ref j) 0 >>= _) _ _ s
  refine (wpAny_bind (wpAny_field ej dj (x := .ref tu) rfl ?_))
  show wpAny _ _ (if (Value.ref tu == Value.none) = true then _ else _) _ _ s
  rw [if_neg (show ¬ ((Value.ref tu == Value.none) = true) from Bool.false_ne_true)]
  show wpAny _ _ (field (.ref j) 1 >>= _) _ _ s
  refine (wpAny_bind (wpAny_field ej dj (x := .int i 0) rfl ?_))
  show wpAny _ _ (seqItems? (.ref tu) >>= _) _ _ s
  refine (wpAny_bind (wpAny_seqItems et dt ?_))
  simp only [Int.toNat_natCast, hv]
  refine (wpAny_bind (wpAny_rule (wpAny_bind (wpAny_setField ej dj (by simp) ?_))))
  show wpAny _ _ (newExc (.type "StopIteration") [] >>= _) (_) _ _
  refine (wpAny_bind ?_)
  simp only [newExc, newTuple]
  refine (wpAny_bind (wpAny_newObj_type ?_ (by size_fits)))
  refine (wpAny_bind (m := firstArgMember _ _) (wpAny_of_eq (a := Value.none) (by first | rfl | (simp only [firstArgMember]; rfl)) ?_))
  refine (wpAny_newObj_type ?_ (by size_fits))
  simp only [raiseNew]
  refine (wpAny_bind (wpAny_handled ?_))
  rw [show A.in1.handled = none from hh]
  refine (wpAny_bind (wpAny_pure (wpAny_throw ?_)))
  exact k _ _ (((Heap.SameBut.update ..).extBut.push _).push _) ⟨_, Heap.get?_push_size _ rfl, rfl⟩
theorem zt_next {z TI TO j1 j2 t1 t2 : Addr} {k1 k2 : Nat} {xs ys : Array Value} {u v c d : Value} {Q : Value → Shared → Prop} (ap : ZipApart z TI TO j1 j2 t1 t2) (hz : IsZip s.heap z TI TO .none) (hI : IsPair s.heap TI (.ref j1) (.ref j2)) (hO : IsPair s.heap TO c d)
    (i1 : s.heap.IsTupleIter j1 t1 k1) (i2 : s.heap.IsTupleIter j2 t2 k2) (q1 : s.heap.IsTuple t1 xs) (q2 : s.heap.IsTuple t2 ys) (hu : xs[k1]? = some u) (hv : ys[k2]? = some v)
    (k : ∀ g, IsZip g z TI TO (rawInt s.heap.objs.size) → IsPair g TO u v → g.IsTupleIter j1 t1 (k1 + 1) → g.IsTupleIter j2 t2 (k2 + 1) → IsPair g s.heap.objs.size u v → g.objs.size = s.heap.objs.size + 1 →
      (∀ b o, b ≠ z → b ≠ TO → b ≠ j1 → b ≠ j2 → s.heap.get? b = some o → g.get? b = some o) → Q (.ref s.heap.objs.size) { s with heap := g }) :
    wpAny (model prog w) A (Builtin.«zip.__next__» ⟨[.ref z], []⟩) (fun f s' => ∃ r, f = .done (.ret r) ∧ Q r s') E s := by
  show wpAny _ _ (field (.ref z) 2 >>= _) (_) _ _
  refine (wpAny_bind (wpAny_field hz rfl (x := .bool false) rfl ?_))
  show wpAny _ _ (field (.ref z) 3 >>= _) (_) _ _
  refine (wpAny_bind (wpAny_field hz rfl (x := .ref TI) rfl ?_))
  refine (wpAny_bind (wpAny_seqItems hI rfl ?_))
  show wpAny _ _ (Builtin.SmallTypes.ownedTupleIsFree (.ref z) >>= _) (_) _ _
  refine (wpAny_bind ?_)
  unfold Builtin.SmallTypes.ownedTupleIsFree
  refine (wpAny_bind (wpAny_field hz rfl (x := .none) rfl (wpAny_pure ?_)))
  simp only [if_true]
  refine (wpAny_bind (wpAny_rule ?_))
  refine (wpAny_bind (wpAny_field hz rfl (x := .ref TO) rfl ?_))
  refine (wpAny_bind (wpAny_setField_rec hz (by simp) fun g1 z1 s1 => ?_))
  replace z1 : IsZip g1 z TI TO .ellipsis := z1
  refine (wpAny_bind ?_)
  simp only [List.zipIdx_cons, List.zipIdx_nil, List.forIn_cons, List.forIn_nil, id]
  refine (wpAny_bind (wpAny_bind (wpAny_onRaise ?_)))
  show wpAny _ _ (Builtin.SmallTypes.nextOf (.ref j1) >>= _) (_) _ _
  refine (wpAny_bind (tnext_item (i1.extBut s1.extBut ap.i1z) (q1.extBut s1.extBut ap.l1z) hu fun g2 n1 s2 => wpAny_pure ?_))
  have O2 : IsPair g2 TO c d := s2.extBut _ _ ap.TOi1 (s1.extBut _ _ ap.TOz hO)
  refine (wpAny_bind (wpAny_seqItems O2 rfl ?_))
  refine (wpAny_bind (wpAny_updateSeq_pair O2 fun g3 O3 s3 => ?_))
  replace O3 : IsPair g3 TO u d := O3
  refine (wpAny_bind (wpAny_letGo (wpAny_pure ?_)))
  refine (wpAny_bind (wpAny_bind (wpAny_onRaise ?_)))
  show wpAny _ _ (Builtin.SmallTypes.nextOf (.ref j2) >>= _) (_) _ _
  refine (wpAny_bind (tnext_item (((i2.extBut s1.extBut ap.i2z).extBut s2.extBut ap.i12.symm).extBut s3.extBut ap.TOi2.symm) (((q2.extBut s1.extBut ap.l2z).extBut s2.extBut ap.l2i1).extBut s3.extBut ap.l2TO) hv fun g4 n2 s4 => wpAny_pure ?_))
  have O4 : IsPair g4 TO u d := s4.extBut _ _ ap.TOi2 O3
  refine (wpAny_bind (wpAny_seqItems O4 rfl ?_))
  refine (wpAny_bind (wpAny_updateSeq_pair O4 fun g5 O5 s5 => ?_))
  replace O5 : IsPair g5 TO u v := O5
  refine (wpAny_bind (wpAny_letGo (wpAny_pure (wpAny_pure ?_))))
  refine (wpAny_bind (wpAny_seqItems O5 rfl ?_))
  refine (wpAny_bind (wpAny_newTuple ?_))
  have sz : g5.objs.size = s.heap.objs.size := by rw [s5.1, s4.1, s3.1, s2.1, s1.1]
  have Z5 : IsZip g5 z TI TO .ellipsis := s5.extBut _ _ ap.TOz.symm (s4.extBut _ _ ap.i2z.symm (s3.extBut _ _ ap.TOz.symm (s2.extBut _ _ ap.i1z.symm z1)))
  have K5 : ∀ b o, b ≠ z → b ≠ TO → b ≠ j1 → b ≠ j2 → s.heap.get? b = some o → g5.get? b = some o := fun b o b1 b2 b3 b4 e => s5.extBut _ _ b2 (s4.extBut _ _ b4 (s3.extBut _ _ b2 (s2.extBut _ _ b3 (s1.extBut _ _ b1 e))))
  have I1 : g5.IsTupleIter j1 t1 (k1 + 1) := ((n1.extBut s3.extBut ap.TOi1.symm).extBut s4.extBut ap.i12).extBut s5.extBut ap.TOi1.symm
  have I2 : g5.IsTupleIter j2 t2 (k2 + 1) := n2.extBut s5.extBut ap.TOi2.symm
  have zlt : z < g5.objs.size := Heap.lt_size Z5
  show wpAny _ _ (Builtin.SmallTypes.ownedTupleHandOut (.ref z) (.ref g5.objs.size) >>= _) (_) _ _
  refine (wpAny_bind ?_)
  unfold Builtin.SmallTypes.ownedTupleHandOut
  have Z6 : IsZip (g5.push { cls := .type "tuple", data := .seq #[u, v] }) z TI TO .ellipsis := Heap.get?_push_of_some _ Z5
  refine (wpAny_bind (wpAny_setField_rec Z6 (by simp) fun g7 Z7 s7 => ?_))
  replace Z7 : IsZip g7 z TI TO (rawInt g5.objs.size) := Z7
  refine wpAny_setField_rec Z7 (by simp) fun g8 Z8 s8 => ?_
  replace Z8 : IsZip g8 z TI TO (rawInt g5.objs.size) := Z8
  have up : ∀ b o, b ≠ z → g5.get? b = some o → g8.get? b = some o := fun b o nb e => s8.extBut _ _ nb (s7.extBut _ _ nb (Heap.get?_push_of_some _ e))
  have T8 : IsPair g8 g5.objs.size u v := s8.extBut _ _ (Nat.ne_of_gt zlt) (s7.extBut _ _ (Nat.ne_of_gt zlt) (Heap.get?_push_size _ rfl))
  have N8 : g8.objs.size = g5.objs.size + 1 := by rw [s8.1, s7.1, Heap.size_push]
  rw [sz] at Z8 T8 N8
  refine wpAny_pure ⟨_, rfl, ?_⟩
  show Q (.ref g5.objs.size) _
  rw [sz]
  exact k g8 Z8 (up _ _ ap.TOz O5) (I1.at fun o e => up _ o ap.i1z e) (I2.at fun o e => up _ o ap.i2z e) T8 N8 fun b o b1 b2 b3 b4 e => up b o b1 (K5 b o b1 b2 b3 b4 e)
theorem zt_end {z TI TO j1 j2 t1 t2 : Addr} {k1 k2 : Nat} {xs ys : Array Value} {c d : Value} {Q : Fin → Shared → Prop} (hh : A.handled = none) (ap : ZipApart z TI TO j1 j2 t1 t2) (hz : IsZip s.heap z TI TO .none) (hI : IsPair s.heap TI (.ref j1) (.ref j2)) (hO : IsPair s.heap TO c d)
    (i1 : s.heap.IsTupleIter j1 t1 k1) (i2 : s.heap.IsTupleIter j2 t2 k2) (q1 : s.heap.IsTuple t1 xs) (q2 : s.heap.IsTuple t2 ys) (he : xs[k1]? = none ∨ ys[k2]? = none)
    (k : ∀ g e, (∀ b o, b ≠ z → b ≠ TO → b ≠ j1 → b ≠ j2 → s.heap.get? b = some o → g.get? b = some o) → (∃ o, g.get? e = some o ∧ o.cls = .type "StopIteration") → E (.ref e) { s with heap := g }) :
    wpAny (model prog w) A (Builtin.«zip.__next__» ⟨[.ref z], []⟩) Q E s := by
  show wpAny _ _ (field (.ref z) 2 >>= _) (_) _ _
  refine (wpAny_bind (wpAny_field hz rfl (x := .bool false) rfl ?_))
  show wpAny _ _ (field (.ref z) 3 >>= _) (_) _ _
  refine (wpAny_bind (wpAny_field hz rfl (x := .ref TI) rfl ?_))
  refine (wpAny_bind (wpAny_seqItems hI rfl ?_))
  show wpAny _ _ (Builtin.SmallTypes.ownedTupleIsFree (.ref z) >>= _) (_) _ _
  refine (wpAny_bind ?_)
  unfold Builtin.SmallTypes.ownedTupleIsFree
  refine (wpAny_bind (wpAny_field hz rfl (x := .none) rfl (wpAny_pure ?_)))
  simp only [if_true]
  refine (wpAny_bind (wpAny_rule ?_))
  refine (wpAny_bind (wpAny_field hz rfl (x := .ref TO) rfl ?_))
  refine (wpAny_bind (wpAny_setField_rec hz (by simp) fun g1 z1 s1 => ?_))
  replace z1 : IsZip g1 z TI TO .ellipsis := z1
  refine (wpAny_bind ?_)
  simp only [List.zipIdx_cons, List.zipIdx_nil, List.forIn_cons, List.forIn_nil, id]
  refine (wpAny_bind (wpAny_bind (wpAny_onRaise ?_)))
  show wpAny _ _ (Builtin.SmallTypes.nextOf (.ref j1) >>= _) (_) _ _
  cases hu : xs[k1]? with
  | none =>
    refine (wpAny_bind (tnext_end hh (i1.extBut s1.extBut ap.i1z) (q1.extBut s1.extBut ap.l1z) hu fun g2 e s2 he => ?_))
    obtain ⟨oe, ho, hc⟩ := he
    have Z2 : IsZip g2 z TI TO .ellipsis := s2 _ _ ap.i1z.symm z1
    have nz : e ≠ z := fun x => by
      subst x
      rw [Z2] at ho
      cases ho
      simp at hc
    refine wpAny_setField_rec Z2 (by simp) fun g3 _ s3 => k g3 e (fun b o b1 _ b3 _ x => s3.extBut _ _ b1 (s2 _ _ b3 (s1.extBut _ _ b1 x))) ⟨oe, s3.extBut _ _ nz ho, hc⟩
  | some u =>
    have hv : ys[k2]? = none := by
      rcases he with q | q
      · rw [hu] at q; cases q
      · exact q
    refine (wpAny_bind (tnext_item (i1.extBut s1.extBut ap.i1z) (q1.extBut s1.extBut ap.l1z) hu fun g2 n1 s2 => wpAny_pure ?_))
    have O2 : IsPair g2 TO c d := s2.extBut _ _ ap.TOi1 (s1.extBut _ _ ap.TOz hO)
    refine (wpAny_bind (wpAny_seqItems O2 rfl ?_))
    refine (wpAny_bind (wpAny_updateSeq_pair O2 fun g3 O3 s3 => ?_))
    refine (wpAny_bind (wpAny_letGo (wpAny_pure ?_)))
    refine (wpAny_bind (wpAny_bind (wpAny_onRaise ?_)))
    show wpAny _ _ (Builtin.SmallTypes.nextOf (.ref j2) >>= _) (_) _ _
    refine (wpAny_bind (tnext_end hh (((i2.extBut s1.extBut ap.i2z).extBut s2.extBut ap.i12.symm).extBut s3.extBut ap.TOi2.symm) (((q2.extBut s1.extBut ap.l2z).extBut s2.extBut ap.l2i1).extBut s3.extBut ap.l2TO) hv fun g4 e s4 he => ?_))
    obtain ⟨oe, ho, hc⟩ := he
    have Z4 : IsZip g4 z TI TO .ellipsis := s4 _ _ ap.i2z.symm (s3.extBut _ _ ap.TOz.symm (s2.extBut _ _ ap.i1z.symm z1))
    have nz : e ≠ z := fun x => by
      subst x
      rw [Z4] at ho
      cases ho
      simp at hc
    refine wpAny_setField_rec Z4 (by simp) fun g5 _ s5 => k g5 e (fun b o b1 b2 b3 b4 x => s5.extBut _ _ b1 (s4 _ _ b4 (s3.extBut _ _ b2 (s2.extBut _ _ b3 (s1.extBut _ _ b1 x))))) ⟨oe, s5.extBut _ _ nz ho, hc⟩
theorem zt_pyNext {z TI TO j1 j2 t1 t2 : Addr} {k1 k2 : Nat} {xs ys : Array Value} {u v c d : Value} {Q : Option Value → Shared → Prop} (ap : ZipApart z TI TO j1 j2 t1 t2) (hz : IsZip s.heap z TI TO .none) (hI : IsPair s.heap TI (.ref j1) (.ref j2)) (hO : IsPair s.heap TO c d)
    (i1 : s.heap.IsTupleIter j1 t1 k1) (i2 : s.heap.IsTupleIter j2 t2 k2) (q1 : s.heap.IsTuple t1 xs) (q2 : s.heap.IsTuple t2 ys) (hu : xs[k1]? = some u) (hv : ys[k2]? = some v)
    (k : ∀ g, IsZip g z TI TO (rawInt s.heap.objs.size) → IsPair g TO u v → g.IsTupleIter j1 t1 (k1 + 1) → g.IsTupleIter j2 t2 (k2 + 1) → IsPair g s.heap.objs.size u v → g.objs.size = s.heap.objs.size + 1 →
      (∀ b o, b ≠ z → b ≠ TO → b ≠ j1 → b ≠ j2 → s.heap.get? b = some o → g.get? b = some o) → Q (some (.ref s.heap.objs.size)) { s with heap := g }) : wpAny (model prog w) A (pyNext (.ref z)) Q E s := by
  have ty : s.TypeIs (.ref z) "zip" := ⟨_, hz, rfl⟩
  unfold pyNext
  exact wpAny_bind (wpAny_attempt (wpAny_callSpecial?_slot (name := Str.ofString "__next__") ty F.slot_zip_next (wpAny_call_entry F.slot_zip_next ty F.entry_zip_next (zt_next ap hz hI hO i1 i2 q1 q2 hu hv fun g a1 a2 a3 a4 a5 a6 a7 => wpAny_pure (k g a1 a2 a3 a4 a5 a6 a7)) (F.args_zip_next_1 _))))
theorem zt_pyEnd {z TI TO j1 j2 t1 t2 : Addr} {k1 k2 : Nat} {xs ys : Array Value} {c d : Value} {Q : Option Value → Shared → Prop} (hh : A.handled = none) (ap : ZipApart z TI TO j1 j2 t1 t2) (hz : IsZip s.heap z TI TO .none) (hI : IsPair s.heap TI (.ref j1) (.ref j2)) (hO : IsPair s.heap TO c d)
    (i1 : s.heap.IsTupleIter j1 t1 k1) (i2 : s.heap.IsTupleIter j2 t2 k2) (q1 : s.heap.IsTuple t1 xs) (q2 : s.heap.IsTuple t2 ys) (he : xs[k1]? = none ∨ ys[k2]? = none)
    (k : ∀ g, (∀ b o, b ≠ z → b ≠ TO → b ≠ j1 → b ≠ j2 → s.heap.get? b = some o → g.get? b = some o) → Q none { s with heap := g }) : wpAny (model prog w) A (pyNext (.ref z)) Q E s := by
  have ty : s.TypeIs (.ref z) "zip" := ⟨_, hz, rfl⟩
  unfold pyNext
  refine (wpAny_bind (wpAny_attempt (wpAny_callSpecial?_slot (name := Str.ofString "__next__") ty F.slot_zip_next (wpAny_call_entry F.slot_zip_next ty F.entry_zip_next (zt_end hh ap hz hI hO i1 i2 q1 q2 he fun g e hk hs => ?_) (F.args_zip_next_1 _)))))
  obtain ⟨o, ho, hc⟩ := hs
  refine (wpAny_bind (wpAny_isInstance (T := "StopIteration") (b := true) ⟨o, ho, hc⟩ isSubtype_stop ?_))
  exact wpAny_pure (k _ hk)
noncomputable abbrev zt1 (h : Heap) (a : Addr) : Heap := h.push { cls := .type "tuple_iterator", data := .fields #[.ref a, .int 0 0] }
noncomputable abbrev zt2 (h : Heap) (a b : Addr) : Heap := (zt1 h a).push { cls := .type "tuple_iterator", data := .fields #[.ref b, .int 0 0] }
noncomputable abbrev zt3 (h : Heap) (a b : Addr) : Heap := (zt2 h a b).push { cls := .type "tuple", data := .seq #[.ref h.objs.size, .ref (zt1 h a).objs.size] }
noncomputable abbrev zt4 (h : Heap) (a b : Addr) : Heap := (zt3 h a b).push { cls := .type "tuple", data := .seq #[.none, .none] }
noncomputable abbrev zt5 (h : Heap) (a b : Addr) : Heap := (zt4 h a b).push { cls := .type "zip", data := .fields #[.none, .bool false, .bool false, .ref (zt2 h a b).objs.size, .ref (zt3 h a b).objs.size] }
theorem zt_new (a b : Addr) (xs ys : Array Value) :
    Meets (Builtin.«zip.__new__» ⟨[.type "zip", .ref a, .ref b], []⟩) (fun _ R s => s.heap.IsTuple a xs ∧ s.heap.IsTuple b ys ∧ R (.ok (.ret (.ref (zt4 s.heap a b).objs.size))) { s with heap := zt5 s.heap a b }) :=
  .of_wp fun prog w A R s h => by
    obtain ⟨hp, g, dr, tk, os⟩ := s
    obtain ⟨h1, h2, h⟩ := h
    have sub := sub_zip
    have L1 : Heap.IsTuple (Shared.heap ⟨hp, g, dr, tk, os⟩) a xs := h1
    have L2 : Heap.IsTuple (Shared.heap ⟨hp.push { cls := .type "tuple_iterator", data := .fields #[.ref a, .int 0 0] }, g, dr, tk, os⟩) b ys := Heap.IsTuple.push h2 _
    wp_walk using wpAny_pyIter_tuple L1, wpAny_pyIter_tuple L2
    exact ⟨_, rfl, h⟩
theorem zt_call {a b : Addr} {xs ys : Array Value} {Q : Value → Shared → Prop} (h1 : s.heap.IsTuple a xs) (h2 : s.heap.IsTuple b ys)
    (k : ∀ g, IsZip g (s.heap.objs.size + 4) (s.heap.objs.size + 2) (s.heap.objs.size + 3) .none → IsPair g (s.heap.objs.size + 2) (.ref s.heap.objs.size) (.ref (s.heap.objs.size + 1)) → IsPair g (s.heap.objs.size + 3) .none .none →
      g.IsTupleIter s.heap.objs.size a 0 → g.IsTupleIter (s.heap.objs.size + 1) b 0 → (∀ c o, s.heap.get? c = some o → g.get? c = some o) → Q (.ref (s.heap.objs.size + 4)) { s with heap := g }) :
    wpAny (model prog w) A (call (.type "zip") [.ref a, .ref b]) Q E s := by
  refine callType_new F.called_zip (by decide) (F.typeCall_zip_2 _ _) (F.newCall_zip_2 _ _) (fun o => F.args_object_init_3 o _ _) F.entry_zip_new (zt_new a b xs ys) ⟨h1, h2, ?_⟩
  have z1 : (zt1 s.heap a).objs.size = s.heap.objs.size + 1 := Heap.size_push ..
  have z2 : (zt2 s.heap a b).objs.size = s.heap.objs.size + 2 := by rw [Heap.size_push, z1]
  have z3 : (zt3 s.heap a b).objs.size = s.heap.objs.size + 3 := by rw [Heap.size_push, z2]
  have z4 : (zt4 s.heap a b).objs.size = s.heap.objs.size + 4 := by rw [Heap.size_push, z3]
  have g5 : (zt5 s.heap a b).get? (zt4 s.heap a b).objs.size = some _ := Heap.get?_push_size _ rfl
  have g4 : (zt5 s.heap a b).get? (zt3 s.heap a b).objs.size = some _ := Heap.get?_push_of_some _ (Heap.get?_push_size _ rfl)
  have g3 : (zt5 s.heap a b).get? (zt2 s.heap a b).objs.size = some _ := Heap.get?_push_of_some _ (Heap.get?_push_of_some _ (Heap.get?_push_size _ rfl))
  have g2 : (zt5 s.heap a b).get? (zt1 s.heap a).objs.size = some _ := Heap.get?_push_of_some _ (Heap.get?_push_of_some _ (Heap.get?_push_of_some _ (Heap.get?_push_size _ rfl)))
  have g1 : (zt5 s.heap a b).get? s.heap.objs.size = some _ := Heap.get?_push_of_some _ (Heap.get?_push_of_some _ (Heap.get?_push_of_some _ (Heap.get?_push_of_some _ (Heap.get?_push_size _ rfl))))
  show _ ∧ _
  rw [z2, z3, z4] at g5
  rw [z1, z2] at g3
  rw [z3] at g4
  rw [z1] at g2
  rw [z4]
  exact ⟨⟨_, g5, rfl⟩, k _ g5 g3 g4 ⟨_, g1, rfl, rfl⟩ ⟨_, g2, rfl, rfl⟩ fun c o x => Heap.get?_push_of_some _ (Heap.get?_push_of_some _ (Heap.get?_push_of_some _ (Heap.get?_push_of_some _ (Heap.get?_push_of_some _ x))))⟩
end
noncomputable def Itzt (K : PySem.W.Frag) (t1 t2 : Addr) : It :=
  ⟨fun i H => ∃ xs ys x y, SqT K H t1 xs ∧ SqT K H t2 ys ∧ xs[i]? = some x ∧ ys[i]? = some y,
   fun i H v H' => ∃ T x y, H T = none ∧ H' = upd H T (.tup [x, y]) ∧ v = .ref T ∧ (∀ xs, SqT K H t1 xs → xs[i]? = some x) ∧ ∀ ys, SqT K H t2 ys → ys[i]? = some y,
   fun i H => ∃ xs ys, SqT K H t1 xs ∧ SqT K H t2 ys ∧ (xs.length ≤ i ∨ ys.length ≤ i)⟩
noncomputable def ZStT (z TI TO j1 j2 t1 t2 : Addr) (i : Nat) (h : Heap) : Prop :=
  IsZip h z TI TO Value.none ∧ IsPair h TI (.ref j1) (.ref j2) ∧ (∃ a b, IsPair h TO a b) ∧ h.IsTupleIter j1 t1 i ∧ h.IsTupleIter j2 t2 i
theorem isTuple_at {h : Heap} {l : Addr} {items : Array Value} (x : h.IsTuple l items) : ∃ o, h.get? l = some o ∧ o.cls = .type "tuple" := by
  obtain ⟨o, e, c, _⟩ := x
  exact ⟨o, e, c⟩
theorem turn_zipT {P : Program} {w : World} {K : PySem.W.Frag} {es : List Expr} {k0 : Nat} {p0 : Pos} {z TI TO i1 i2 l1 l2 : Addr} (ap : ZipApart z TI TO i1 i2 l1 l2) :
    Turn P w K (.Tuple es k0 p0) (Itzt K l1 l2) [z, TI, TO, i1, i2] z (ZStT z TI TO i1 i2 l1 l2) where
  mem := by simp
  obj := fun i h ⟨a, b, ⟨c1, c2, c⟩, d, e⟩ x hx => by
    simp only [List.mem_cons, List.not_mem_nil, or_false] at hx
    rcases hx with rfl | rfl | rfl | rfl | rfl
    · exact ⟨_, a, fun v q => by cases q⟩
    · exact ⟨_, b, fun v q => by cases q⟩
    · exact ⟨_, c, fun v q => by cases q⟩
    · obtain ⟨o, e1, _, e2⟩ := d
      exact ⟨o, e1, fun v q => by rw [e2] at q; cases q⟩
    · obtain ⟨o, e1, _, e2⟩ := e
      exact ⟨o, e1, fun v q => by rw [e2] at q; cases q⟩
  keep := fun i h h' ⟨a, b, ⟨c1, c2, c⟩, d, e⟩ kk =>
    ⟨kk _ (by simp) _ a, kk _ (by simp) _ b, ⟨c1, c2, kk _ (by simp) _ c⟩, d.at fun o q => kk _ (by simp) o q, e.at fun o q => kk _ (by simp) o q⟩
  item := by
    intro X hP hw hK hc i pins s σ H E I hf st hg
    subst hP hw hK
    obtain ⟨a, b, ⟨c1, c2, c⟩, d, e⟩ := st
    obtain ⟨xs, ys, x, y, q1, q2, x1, y1⟩ := hg
    obtain ⟨its1, rv1, pl1, hz1⟩ := I.tuple q1
    obtain ⟨its2, rv2, pl2, hz2⟩ := I.tuple q2
    obtain ⟨u1, hu1, ru1⟩ := rv1.get x1
    obtain ⟨u2, hu2, ru2⟩ := rv2.get y1
    refine zt_pyNext ap a b c d e (show s.heap.IsTuple l1 its1.toArray from pl1) (show s.heap.IsTuple l2 its2.toArray from pl2) (u := u1) (v := u2) (by simpa using hu1) (by simpa using hu2) fun h' za zb zc zd ze zs zk => ?_
    refine ⟨_, rfl, wpAny_letOwnedTupleGo_zip (s := { s with heap := h' }) za fun h2 za2 sb => ?_⟩
    have kk : ∀ b o, b ∉ [z, TI, TO, i1, i2] → s.heap.get? b = some o → h2.get? b = some o := fun b o hb q => by
      simp only [List.mem_cons, List.not_mem_nil, or_false, not_or] at hb
      exact (sb.2 b hb.1).trans (zk b o hb.1 hb.2.2.1 hb.2.2.2.1 hb.2.2.2.2 q)
    have szn : s.heap.objs.size ≠ z := fun q => by
      obtain ⟨f0, _⟩ := hf z (by simp)
      exact absurd (Heap.lt_size a) (by rw [← q]; exact Nat.lt_irrefl _)
    have hT : h2.get? s.heap.objs.size = some { cls := .type "tuple", data := .seq #[u1, u2] } := (sb.2 _ szn).trans ze
    have fr : H s.heap.objs.size = none := I.hok.fresh (Nat.le_refl _)
    have I2 : Inv X pins σ (upd H s.heap.objs.size (.tup [x, y])) { s with heap := h2 } := I.turnLay (t' := s.toks) (fp := [z, TI, TO, i1, i2]) kk hf (Nat.le_refl _)
      ⟨by show 2 ≤ sizeLine; decide, [u1, u2], .cons ru1 (.cons ru2 .nil), ⟨_, hT, rfl, _, rfl⟩⟩
    have kTI : h2.get? TI = some _ := (sb.2 TI ap.TIz).trans (zk TI _ ap.TIz ap.TITO ap.TIi1 ap.TIi2 b)
    refine ⟨.ref s.heap.objs.size, _, I2, rfl, ⟨_, x, y, fr, rfl, rfl, fun zs hz => by rw [I.tuple_inj hz q1]; exact x1, fun zs hz => by rw [I.tuple_inj hz q2]; exact y1⟩,
      ⟨za2, kTI, ⟨_, _, (sb.2 TO ap.TOz).trans zb⟩, zc.at fun o q => (sb.2 _ ap.i1z).trans q, zd.at fun o q => (sb.2 _ ap.i2z).trans q⟩, fun b hb => ?_⟩
    have h0 := (hf b hb).1
    have hlt : b ≠ s.heap.objs.size := fun q => by
      subst q
      simp only [List.mem_cons, List.not_mem_nil, or_false] at hb
      rcases hb with q | q | q | q | q
      · exact szn q
      · exact absurd (Heap.lt_size b) (by rw [← q]; exact Nat.lt_irrefl _)
      · exact absurd (Heap.lt_size c) (by rw [← q]; exact Nat.lt_irrefl _)
      · obtain ⟨o, e1, _⟩ := d
        exact absurd (Heap.lt_size e1) (by rw [← q]; exact Nat.lt_irrefl _)
      · obtain ⟨o, e1, _⟩ := e
        exact absurd (Heap.lt_size e1) (by rw [← q]; exact Nat.lt_irrefl _)
    rw [upd_ne hlt]
    exact h0
  done := by
    intro X hP hw hK hc i pins s σ H E I hf st hg
    subst hP hw hK
    obtain ⟨a, b, ⟨c1, c2, c⟩, d, e⟩ := st
    obtain ⟨xs, ys, q1, q2, hl⟩ := hg
    obtain ⟨its1, rv1, pl1, hz1⟩ := I.tuple q1
    obtain ⟨its2, rv2, pl2, hz2⟩ := I.tuple q2
    have g1 := rv1.length
    have g2 := rv2.length
    refine zt_pyEnd (I.ok.hd hc) ap a b c d e (show s.heap.IsTuple l1 its1.toArray from pl1) (show s.heap.IsTuple l2 its2.toArray from pl2) ?_ fun h' zk => ⟨rfl, I.turnedL (t' := s.toks) (fp := [z, TI, TO, i1, i2]) (fun b o hb q => ?_) hf⟩
    · rcases hl with q | q
      · left; simp; omega
      · right; simp; omega
    · simp only [List.mem_cons, List.not_mem_nil, or_false, not_or] at hb
      exact zk b o hb.1 hb.2.2.1 hb.2.2.2.1 hb.2.2.2.2 q
  self := fun _ _ _ _ _ st h => wpAny_pyIter_zip st.1 h
noncomputable def iZipT (K : PySem.W.Frag) (ta : TA) : TI := fun σ H R => ta σ H fun vs H1 => ∃ a b, vs = [.ref a, .ref b] ∧ (∃ xs, SqT K H1 a xs) ∧ (∃ ys, SqT K H1 b ys) ∧ R (Itzt K a b) H1
theorem pi_zipT {X : Cx} {es : List Expr} {k0 : Nat} {p0 : Pos} {a b : Expr} {ta : TA} {p pos : Pos} (hg : Gl X "zip") (hm : X.mg "zip" = none) (ha : PA X [a, b] ta) (hs : starEach [a, b] X.env = [(false, eval a X.env), (false, eval b X.env)] := by rfl) (hs2 : starEach [b] X.env = [(false, eval b X.env)] := by rfl) :
    PI X (.Tuple es k0 p0) (.Call (.Name "zip" p) [a, b] [] pos) (iZipT X.K ta) := by
  intro pins s σ H R I h
  refine Call_ (ld_blt I hg hm boot_zip (PyProof.Rows.callWith_type1 (thn (ha pos pins s σ H _ I h) fun us s1 ⟨vs, H1, I1, r1, q1⟩ => ?_) (by rw [hs, hs2]) (by rw [hs2]; rfl)))
  obtain ⟨l1, l2, e, ⟨xs, q1⟩, ⟨ys, q2⟩, q⟩ := q1
  subst e
  cases r1 with
  | cons r rr =>
    cases rr with
    | cons r' rr =>
      cases rr
      cases r
      cases r'
      obtain ⟨its1, rv1, pl1, hz1⟩ := I1.tuple q1
      obtain ⟨its2, rv2, pl2, hz2⟩ := I1.tuple q2
      have T1 : s1.heap.IsTuple l1 its1.toArray := pl1
      have T2 : s1.heap.IsTuple l2 its2.toArray := pl2
      have lt1 : l1 < s1.heap.objs.size := by obtain ⟨o, e, _⟩ := isTuple_at T1; exact Heap.lt_size e
      have lt2 : l2 < s1.heap.objs.size := by obtain ⟨o, e, _⟩ := isTuple_at T2; exact Heap.lt_size e
      refine zt_call T1 T2 fun h' za zb zc zd ze zk => ?_
      refine wpAny_pyIter_zip (s := { s1 with heap := h' }) za ?_
      have I2 : Inv X pins σ H1 { s1 with heap := h' } := I1.kept (t' := s1.toks) fun b o e => zk b o e
      refine ⟨_, [_, _, _, _, _], _, _, H1, rfl, I2, turn_zipT (z := s1.heap.objs.size + 4) (TI := s1.heap.objs.size + 2) (TO := s1.heap.objs.size + 3) (i1 := s1.heap.objs.size) (i2 := s1.heap.objs.size + 1) (l1 := l1) (l2 := l2) ?_, ⟨za, zb, ⟨_, _, zc⟩, zd, ze⟩, fun b hb => ?_, q⟩
      · exact zapart lt1 lt2
      · simp only [List.mem_cons, List.not_mem_nil, or_false] at hb
        have ge : s1.heap.objs.size ≤ b := by rcases hb with z | z | z | z | z <;> (subst z; first | exact Nat.le_add_right _ _ | exact Nat.le_refl _)
        exact I1.fpOk ge (I1.hok.fresh ge)
theorem for_zipT {K : PySem.W.Frag} {l1 l2 : Addr} {xs ys : List V} {g : TG} {tb : TS} {D : Ends} {σ : St} {H : Hp} {n : Nat} (Pv : Nat → St → Hp → Prop) (h0 : Pv 0 σ H) (n1 : n ≤ xs.length) (n2 : n ≤ ys.length) (ne : xs.length = n ∨ ys.length = n)
    (hl : ∀ i σ H, i ≤ n → Pv i σ H → SqT K H l1 xs ∧ SqT K H l2 ys)
    (hs : ∀ i x y T σ H, i < n → xs[i]? = some x → ys[i]? = some y → H T = none → Pv i σ H → g (.ref T) σ (upd H T (.tup [x, y])) fun σ2 H2 => tb { D with nx := Pv (i + 1), ct := Pv (i + 1), bk := D.nx } σ2 H2) (hd : ∀ σ H, Pv n σ H → D.nx σ H) :
    ∃ W : Nat → Nat → St → Hp → Prop, (∃ m, W 0 m σ H) ∧ ∀ i m σ H, W i m σ H →
      ((Itzt K l1 l2).stop i H ∧ D.nx σ H) ∨ ((Itzt K l1 l2).go i H ∧ ∃ N : St → Hp → Prop, (∀ σ' H', N σ' H' → ∃ m', m' < m ∧ W (i + 1) m' σ' H') ∧ ∀ x H', (Itzt K l1 l2).yld i H x H' → g x σ H' fun σ2 H2 => tb { D with nx := N, ct := N, bk := D.nx } σ2 H2) := by
  refine ⟨fun i m σ H => m = n - i ∧ i ≤ n ∧ Pv i σ H, ⟨n, by simp, Nat.zero_le _, h0⟩, ?_⟩
  rintro i m σ H ⟨rfl, hi, p⟩
  obtain ⟨q1, q2⟩ := hl i σ H hi p
  by_cases hlt : i < n
  · have ex : xs[i]? = some (xs[i]'(by omega)) := List.getElem?_eq_getElem (by omega)
    have ey : ys[i]? = some (ys[i]'(by omega)) := List.getElem?_eq_getElem (by omega)
    refine .inr ⟨⟨xs, ys, _, _, q1, q2, ex, ey⟩, Pv (i + 1), fun σ' H' z => ⟨n - (i + 1), by omega, rfl, hlt, z⟩, ?_⟩
    rintro v H' ⟨T, x, y, fr, rfl, rfl, hx, hy⟩
    exact hs i x y T σ H hlt (hx xs q1) (hy ys q2) fr p
  · have ei : i = n := by omega
    subst ei
    refine .inl ⟨⟨xs, ys, q1, q2, ?_⟩, hd σ H p⟩
    rcases ne with z | z
    · exact .inl (by omega)
    · exact .inr (by omega)
end L2
set_option maxHeartbeats 4000000
namespace L2
open PySem PySem.Spec PyProof.Rows
set_option maxRecDepth 8000 in
theorem ext_tup (l : Addr) (its : Array Value) (n : Nat) (b : Addr) (its2 : Array Value) (n2 : Nat) (od : Option Addr) (os2 : Array (Option Value)) (h0 : ¬(!its.isEmpty && Builtin.List.listTooLong (its.size + its2.size)) = true) (h1 : its.size ≤ sizeLine) (h2 : its.size + its2.size ≤ sizeLine + 1) :
    Meets (Builtin.«list.extend» ⟨[.ref l, .ref b], []⟩) (fun _ R s => s.heap.get? l = some { cls := .type "list", dict := none, data := .seq its n, slots := #[] } ∧ s.heap.get? b = some { cls := .type "tuple", dict := od, data := .seq its2 n2, slots := os2 } ∧ R (.ok (.ret Value.none)) { s with heap := s.heap.update l (Obj.mapSeq fun x => x ++ its2), toks := s.toks }) :=
  .of_wp fun prog w A R s h => by
    obtain ⟨hp, g, d, tk, os⟩ := s
    obtain ⟨hl, hb, h⟩ := h
    have f1 := AutoSeq1.idx_int
    have f2 := AutoSeq1.sub_tuple_tuple
    have f3 := AutoSeq1.sub_list_list
    have f4 := AutoSeq1.sub_tuple_list
    have f5 := AutoSeq1.sub_list_tuple
    have hz : (its ++ its2).size ≤ sizeLine + 1 := by rw [Array.size_append]; exact h2
    wp_walk using (wpAny_updateSeq hl rfl (hz := h1) (_hz' := hz)), wpAny_loadPart' hl, wpAny_loadPart' hb
    exact ⟨_, rfl, h⟩
section
variable {X : Cx}
noncomputable def rExtT : V → List V → Hp → VK → Prop := fun x vs H Q => ∃ l b xs zs, x = .ref l ∧ vs = [.ref b] ∧ H l = some (.lst xs) ∧ H b = some (.tup zs) ∧ xs.length + zs.length ≤ sizeLine ∧ Q .non (upd H l (.lst (xs ++ zs)))
theorem mt_extendT : MtM X "list.extend" rExtT := by
  intro pins s σ H x vs v us Q I rx rv h
  obtain ⟨l, b, xs, zs, rfl, rfl, hH, hB, hz, q⟩ := h
  cases rx
  obtain ⟨u, rfl, ru⟩ := rv.one
  cases ru
  obtain ⟨z, its, n, r, hl, e⟩ := I.lstM hH
  obtain ⟨z2, its2, r2, g2⟩ := (show ObjOk X.prog X.w H s.heap b (.tup zs) from I.hok b _ hB)
  have hl2 := r2.length
  obtain ⟨⟨oc, od, oda, osl⟩, e2, ecl, n2, eda⟩ := (show s.heap.IsTuple b its2.toArray from g2)
  simp only at ecl eda
  subst ecl eda
  have hsz : its.toArray.size + its2.toArray.size ≤ sizeLine := by rw [List.size_toArray, List.size_toArray]; omega
  have hlong : ¬ (!its.toArray.isEmpty && Builtin.List.listTooLong (its.toArray.size + its2.toArray.size)) = true := by
    rw [notLongL hsz, Bool.and_false]
    exact Bool.false_ne_true
  refine call_meets F.slot_list_extend ⟨_, e, rfl⟩ F.entry_list_extend (F.args_list_extend_2 _ _)
    (ext_tup l its.toArray n b its2.toArray n2 od osl hlong (by rw [List.size_toArray]; omega) (by omega)) ⟨e, e2, ?_⟩
  refine ⟨.non, _, I.lset (its' := its ++ its2) hH e (by simp) (r.append r2) ?_, rfl, q⟩
  rw [List.length_append]
  omega
end
noncomputable def Prs (H : Hp) : List (Int × Int) → List V → Prop
  | [], xs => xs = []
  | z :: zs, xs => ∃ a ys, xs = .ref a :: ys ∧ H a = some (.tup [.int z.1, .int z.2]) ∧ Prs H zs ys
noncomputable def isPr (H : Hp) (z : Int × Int) (w : Value) : Bool := @decide (∃ a, w = Value.ref a ∧ H a = some (.tup [.int z.1, .int z.2])) (Classical.propDecidable _)
theorem isPr_ref {H : Hp} {z za : Int × Int} {a : Addr} (ha : H a = some (.tup [.int za.1, .int za.2])) : isPr H z (.ref a) = decide (za = z) := by
  rw [Bool.eq_iff_iff, isPr, @decide_eq_true_iff _ (Classical.propDecidable _), decide_eq_true_iff]
  constructor
  · rintro ⟨a', e, h⟩
    cases e
    rw [ha] at h
    simp only [Option.some.injEq, HO.tup.injEq, List.cons.injEq, V.int.injEq, and_true] at h
    exact Prod.ext h.1 h.2
  · rintro rfl
    exact ⟨a, rfl, ha⟩
theorem prs_mem {H : Hp} : ∀ {zs : List (Int × Int)} {xs : List V} {us : List Value}, Prs H zs xs → Vals xs us → ∀ w ∈ us, ∃ (a : Addr) (za : Int × Int), w = Value.ref a ∧ H a = some (.tup [.int za.1, .int za.2])
  | [], xs, us, h, r => by
    rw [show xs = [] from h] at r
    cases r
    intro w hw
    cases hw
  | z :: zs, xs, us, ⟨a, ys, e, ha, h⟩, r => by
    subst e
    cases r with
    | cons r1 rr =>
      cases r1
      intro w hw
      rcases List.mem_cons.mp hw with rfl | hw
      · exact ⟨a, z, rfl, ha⟩
      · exact prs_mem h rr w hw
theorem prs_any {H : Hp} {z : Int × Int} : ∀ {zs : List (Int × Int)} {xs : List V} {us : List Value}, Prs H zs xs → Vals xs us → us.any (isPr H z) = zs.any fun w => decide (w = z)
  | [], xs, us, h, r => by
    rw [show xs = [] from h] at r
    cases r
    rfl
  | z0 :: zs, xs, us, ⟨a, ys, e, ha, h⟩, r => by
    subst e
    cases r with
    | cons r1 rr =>
      cases r1
      rw [List.any_cons, List.any_cons, isPr_ref ha, prs_any h rr]
section
variable {X : Cx}
theorem op_notInP (hu : X.A.units + 64 < cLine) : OpR X (compareOp .NotIn) (fun x y H Q => ∃ l xs zs b z, x = .ref b ∧ y = .ref l ∧ SqL X.K H l xs ∧ Prs H zs xs ∧ H b = some (.tup [.int z.1, .int z.2]) ∧ Q (.bl (!zs.any fun w => decide (w = z))) H) := by
  intro pins s σ H x y v u Q I rx ry h
  obtain ⟨l, xs, zs, b, z, rfl, rfl, hq, hp, hb, q⟩ := h
  cases rx
  cases ry
  obtain ⟨its, r, pl, hz⟩ := I.list hq
  refine SeqAt.notIn_listAt (isPr H z) pl.isList (fun w hw => ?_) ⟨.bl _, H, I, rfl, ?_⟩
  · obtain ⟨a, za, rfl, ha⟩ := prs_mem hp r w (by simpa using hw)
    have k := eqQ I.hok 50 X.A.in1 (.tup [.int za.1, .int za.2]) (.tup [.int z.1, .int z.2]) (.ref a) (.ref b) (.ref a) (.ref b) (by simp [depT, depTs]) (by show X.A.units + 1 + 50 < cLine; omega) (by simp [cmpTh, cmpThs])
      ⟨a, _, rfl, ha, _, _, rfl, rfl, _, _, rfl, rfl, rfl⟩ ⟨b, _, rfl, hb, _, _, rfl, rfl, _, _, rfl, rfl, rfl⟩ rfl rfl
    have e : eqTh (.tup [.int za.1, .int za.2]) (.tup [.int z.1, .int z.2]) = isPr H z (.ref a) := by
      rw [isPr_ref ha, Bool.eq_iff_iff]
      simp [eqTh, eqThs, Prod.ext_iff]
    rw [e] at k
    exact k
  · rw [show its.toArray.any (isPr H z) = its.any (isPr H z) by simp, prs_any hp r]
    exact q
end
end L2
set_option maxHeartbeats 4000000
namespace L2
open PySem PySem.Spec PyProof.Rows
section
variable {X : Cx} {e st : Expr} {te ts : TE} {pos p2 : Pos}
end
end L2
set_option maxHeartbeats 4000000
namespace L2
open PySem PySem.Spec PyProof.Rows
section
variable {X : Cx}
end
end L2
namespace Gc
theorem gstep {a b : Int} (ha : 0 ≤ a) (hb : 0 ≤ b) (h : b ≠ 0) : Int.gcd b (a % b) = Int.gcd a b := by
  rw [Int.gcd_comm a b]
  unfold Int.gcd
  have e : (a % b).natAbs = a.natAbs % b.natAbs := by
    rw [Int.natAbs_emod_of_nonneg ha]
  rw [e, Nat.gcd_comm b.natAbs (a.natAbs % b.natAbs), ← Nat.gcd_rec]
theorem gend {a : Int} (ha : 0 ≤ a) : (Int.gcd a 0 : Int) = a := by
  rw [Int.gcd_zero_right]; omega
theorem gabs (a b : Int) : Int.gcd (if a < 0 then -a else a) (if b < 0 then -b else b) = Int.gcd a b := by
  unfold Int.gcd
  have h1 : (if a < 0 then -a else a).natAbs = a.natAbs := by split <;> omega
  have h2 : (if b < 0 then -b else b).natAbs = b.natAbs := by split <;> omega
  rw [h1, h2]
end Gc
namespace Gc
theorem fdiv_mul {g t : Int} (h : g ≠ 0) : (g * t).fdiv g = t := by
  rw [Int.mul_comm]; exact Int.mul_fdiv_cancel _ h
noncomputable def frD (t b : Int) : Int := if b < 0 then -(Int.gcd t b : Int) else (Int.gcd t b : Int)
noncomputable def frT (t b : Int) : Int := t.fdiv (frD t b)
noncomputable def frB (t b : Int) : Int := b.fdiv (frD t b)
theorem gne {t b : Int} (h : b ≠ 0) : Int.gcd t b ≠ 0 := fun e => h (Int.gcd_eq_zero_iff.mp e).2
theorem frD_ne {t b : Int} (h : b ≠ 0) : frD t b ≠ 0 := by
  have := gne (t := t) h
  unfold frD; split <;> omega
theorem fr_split {t b : Int} (h : b ≠ 0) : t = frD t b * frT t b ∧ b = frD t b * frB t b := by
  have hd : (Int.gcd t b : Int) ∣ t := Int.gcd_dvd_left ..
  have hb : (Int.gcd t b : Int) ∣ b := Int.gcd_dvd_right ..
  have hd' : frD t b ∣ t := by unfold frD; split; · exact Int.neg_dvd.mpr hd
                               · exact hd
  have hb' : frD t b ∣ b := by unfold frD; split; · exact Int.neg_dvd.mpr hb
                               · exact hb
  obtain ⟨x, hx⟩ := hd'
  obtain ⟨y, hy⟩ := hb'
  have ne := frD_ne (t := t) h
  generalize hD : frD t b = d at *
  have e1 : frT t b = x := by unfold frT; rw [hD]; conv => lhs; rw [hx]
                              exact fdiv_mul ne
  have e2 : frB t b = y := by unfold frB; rw [hD]; conv => lhs; rw [hy]
                              exact fdiv_mul ne
  rw [e1, e2]; exact ⟨hx, hy⟩
theorem frB_pos {t b : Int} (h : b ≠ 0) : 0 < frB t b := by
  obtain ⟨_, e⟩ := fr_split (t := t) h
  have g := gne (t := t) h
  rcases Int.lt_trichotomy (frB t b) 0 with c | c | c
  · exfalso
    by_cases hb : b < 0
    · have hd : frD t b < 0 := by unfold frD; rw [if_pos hb]; omega
      have := Int.mul_pos_of_neg_of_neg hd c
      omega
    · have hd : 0 < frD t b := by unfold frD; rw [if_neg hb]; omega
      have := Int.mul_neg_of_pos_of_neg hd c
      omega
  · rw [c, Int.mul_zero] at e; exact absurd e h
  · exact c
theorem fr_gcd {t b : Int} (h : b ≠ 0) : Int.gcd (frT t b) (frB t b) = 1 := by
  obtain ⟨e1, e2⟩ := fr_split (t := t) h
  have g := gne (t := t) h
  have k : Int.gcd t b = (frD t b).natAbs * Int.gcd (frT t b) (frB t b) := by
    rw [← Int.gcd_mul_left, ← e1, ← e2]
  have hn : (frD t b).natAbs = Int.gcd t b := by unfold frD; split <;> omega
  rw [hn] at k
  have : Int.gcd t b * 1 = Int.gcd t b * Int.gcd (frT t b) (frB t b) := by rw [Nat.mul_one]; exact k
  exact (Nat.eq_of_mul_eq_mul_left (Nat.pos_of_ne_zero g) this).symm
theorem fr_cross {t b : Int} (h : b ≠ 0) : frT t b * b = t * frB t b := by
  obtain ⟨e1, e2⟩ := fr_split (t := t) h
  generalize frT t b = x at *
  generalize frB t b = y at *
  generalize frD t b = d at *
  subst e1 e2
  rw [Int.mul_left_comm, Int.mul_assoc]
theorem dvd_cop {k m n : Int} (h : k ∣ m * n) (c : Int.gcd k m = 1) : k ∣ n := by
  have h' : k.natAbs ∣ m.natAbs * n.natAbs := by rw [← Int.natAbs_mul]; exact Int.natAbs_dvd_natAbs.mpr h
  exact Int.natAbs_dvd_natAbs.mp (Nat.Coprime.dvd_of_dvd_mul_left c h')
theorem fr_same {a b c d : Int} (hb : 0 < b) (hd : 0 < d) (g1 : Int.gcd a b = 1) (g2 : Int.gcd c d = 1) (e : a * d = c * b) : a = c ∧ b = d := by
  have h1 : b ∣ d := by
    have : b ∣ a * d := ⟨c, by rw [e, Int.mul_comm]⟩
    have k : Int.gcd b a = 1 := by rw [Int.gcd_comm]; exact g1
    exact dvd_cop this k
  have h2 : d ∣ b := by
    have : d ∣ c * b := ⟨a, by rw [← e, Int.mul_comm]⟩
    have k : Int.gcd d c = 1 := by rw [Int.gcd_comm]; exact g2
    exact dvd_cop this k
  have hbd : b = d := Int.dvd_antisymm (by omega) (by omega) h1 h2
  subst hbd
  exact ⟨Int.eq_of_mul_eq_mul_right (by omega) e, rfl⟩
end Gc
namespace Gc
theorem mul_ne {a b : Int} (ha : 0 < a) (hb : 0 < b) : a * b ≠ 0 := Int.ne_of_gt (Int.mul_pos ha hb)
theorem cancel {k x y : Int} (h : k ≠ 0) (e : k * x = k * y) : x = y := Int.eq_of_mul_eq_mul_left h e
theorem fr_is {t b c d : Int} (hb : b ≠ 0) (hd : 0 < d) (g : Int.gcd c d = 1) (e : t * d = c * b) : frT t b = c ∧ frB t b = d := by
  have h := fr_cross (t := t) hb
  refine fr_same (frB_pos hb) hd (fr_gcd hb) g ?_
  refine cancel hb ?_
  generalize frT t b = x at *
  generalize frB t b = y at *
  grind
noncomputable def Sz (n : Nat) (i : Int) : Prop := i.natAbs < 2 ^ n
theorem Sz.mono {m n : Nat} {i : Int} (h : Sz m i) (hn : m ≤ n) : Sz n i := Nat.lt_of_lt_of_le h (Nat.pow_le_pow_right (by decide) hn)
theorem Sz.mul {m n : Nat} {i j : Int} (h1 : Sz m i) (h2 : Sz n j) : Sz (m + n) (i * j) := by
  unfold Sz at *
  rw [Int.natAbs_mul, Nat.pow_add]
  exact Nat.mul_lt_mul'' h1 h2
theorem Sz.add {n : Nat} {i j : Int} (h1 : Sz n i) (h2 : Sz n j) : Sz (n + 1) (i + j) := by
  unfold Sz at *
  rw [Nat.pow_succ]; omega
theorem Sz.sub {n : Nat} {i j : Int} (h1 : Sz n i) (h2 : Sz n j) : Sz (n + 1) (i - j) := by
  unfold Sz at *
  rw [Nat.pow_succ]; omega
theorem Sz.fr {n m : Nat} {a b : Int} (h : b ≠ 0) (sa : Sz n a) (sb : Sz m b) : Sz n (frT a b) ∧ Sz m (frB a b) := by
  obtain ⟨e1, e2⟩ := fr_split (t := a) h
  have nd := frD_ne (t := a) h
  have h1 : (frT a b).natAbs ≤ a.natAbs := by
    have : a.natAbs = (frD a b).natAbs * (frT a b).natAbs := by rw [← Int.natAbs_mul, ← e1]
    rw [this]; exact Nat.le_mul_of_pos_left _ (by omega)
  have h2 : (frB a b).natAbs ≤ b.natAbs := by
    have : b.natAbs = (frD a b).natAbs * (frB a b).natAbs := by rw [← Int.natAbs_mul, ← e2]
    rw [this]; exact Nat.le_mul_of_pos_left _ (by omega)
  exact ⟨Nat.lt_of_le_of_lt h1 sa, Nat.lt_of_le_of_lt h2 sb⟩
structure FrOK (a b : Int) : Prop where
  pos : 0 < b
  low : Int.gcd a b = 1
  s1 : Sz 200 a
  s2 : Sz 200 b
theorem FrOK.of {a b : Int} (h : 0 < b) (sa : Sz 200 a) (sb : Sz 200 b) : FrOK (frT a b) (frB a b) :=
  have z := Sz.fr (by omega) sa sb
  ⟨frB_pos (by omega), fr_gcd (by omega), z.1, z.2⟩
theorem frD_pos {a b : Int} (h : 0 < b) : frD a b = Int.gcd a b := if_neg (by omega)
end Gc
namespace Ch
noncomputable def binom : Nat → Nat → Nat
  | _, 0 => 1
  | 0, _ + 1 => 0
  | n + 1, k + 1 => binom n k + binom n (k + 1)
theorem b0 (n : Nat) : binom n 0 = 1 := by cases n <;> rfl
theorem bs (n k : Nat) : binom (n + 1) (k + 1) = binom n k + binom n (k + 1) := rfl
theorem blt : ∀ {n k : Nat}, n < k → binom n k = 0
  | 0, k + 1, _ => rfl
  | n + 1, k + 1, h => by rw [bs, blt (by omega : n < k), blt (by omega : n < k + 1)]
theorem bself : ∀ n : Nat, binom n n = 1
  | 0 => rfl
  | n + 1 => by rw [bs, bself n, blt (Nat.lt_succ_self n)]
theorem babs : ∀ n k : Nat, binom n (k + 1) * (k + 1) = binom n k * (n - k)
  | 0, k => by rw [show binom 0 (k + 1) = 0 from rfl]; simp
  | n + 1, 0 => by
    have ih := babs n 0
    rw [bs, b0, b0]
    rw [b0] at ih
    simp only [Nat.zero_add, Nat.mul_one, Nat.one_mul, Nat.sub_zero] at *
    omega
  | n + 1, k + 1 => by
    have i1 := babs n k
    have i2 := babs n (k + 1)
    rw [bs n (k + 1), bs n k]
    by_cases h : k < n
    · have e1 : n - k = (n - (k + 1)) + 1 := by omega
      have e2 : n + 1 - (k + 1) = n - k := by omega
      rw [e2]
      rw [e1] at i1 ⊢
      generalize n - (k + 1) = d at *
      have : (binom n (k + 1) + binom n (k + 1 + 1)) * (k + 1 + 1) = binom n (k + 1) * (k + 1) + binom n (k + 1) + binom n (k + 1 + 1) * (k + 1 + 1) := by
        rw [Nat.add_mul, Nat.mul_add (binom n (k + 1)) (k + 1) 1, Nat.mul_one]
      rw [this, i1, i2, Nat.add_mul, Nat.mul_add (binom n k) d 1, Nat.mul_add (binom n (k + 1)) d 1]
      omega
    · have z1 : binom n (k + 1) = 0 := blt (by omega)
      have z2 : binom n (k + 1 + 1) = 0 := blt (by omega)
      have e2 : n + 1 - (k + 1) = 0 := by omega
      rw [z1, z2, e2]; simp
theorem bsymm : ∀ {n k : Nat}, k ≤ n → binom n (n - k) = binom n k
  | 0, 0, _ => rfl
  | n + 1, 0, _ => by rw [Nat.sub_zero, bself, b0]
  | n + 1, k + 1, h => by
    by_cases e : k = n
    · subst e; rw [Nat.sub_self, b0, bself]
    · have e1 : n + 1 - (k + 1) = (n - (k + 1)) + 1 := by omega
      have e2 : n - (k + 1) + 1 = n - k := by omega
      rw [e1, bs, bs, e2, bsymm (by omega : k + 1 ≤ n), bsymm (by omega : k ≤ n)]
      omega
theorem bturn (n t : Nat) : binom n t * (n - t) / (t + 1) = binom n (t + 1) := by
  rw [← babs, Nat.mul_div_cancel _ (Nat.succ_pos t)]
noncomputable def cho (n k : Int) : Int := if k < 0 ∨ n < k then 0 else (binom n.toNat k.toNat : Int)
theorem cho_out {n k : Int} (h : k < 0 ∨ n < k) : cho n k = 0 := if_pos h
theorem cho_in {n k : Int} (h0 : 0 ≤ k) (h1 : k ≤ n) : cho n k = (binom n.toNat k.toNat : Int) := if_neg (by omega)
theorem cho_min {n k : Int} (h0 : 0 ≤ k) (h1 : k ≤ n) : (binom n.toNat (if n - k < k then n - k else k).toNat : Int) = cho n k := by
  rw [cho_in h0 h1]
  by_cases c : n - k < k
  · rw [if_pos c]
    have e : (n - k).toNat = n.toNat - k.toNat := by omega
    rw [e, bsymm (by omega)]
  · rw [if_neg c]
theorem cho_turn {n : Int} {t : Nat} (h : (t : Int) < n) : (binom n.toNat t : Int) * (n - t) / ((t : Int) + 1) = (binom n.toNat (t + 1) : Int) := by
  rw [← bturn n.toNat t]
  have e : n - (t : Int) = ((n.toNat - t : Nat) : Int) := by omega
  rw [e]
  simp
end Ch
namespace Gc
open Ch
theorem rle {a b c : Rat} (h : a ≤ b) (hc : 0 ≤ c) : c * a ≤ c * b := Rat.mul_le_mul_of_nonneg_left h hc
noncomputable def sm (f : Nat → Rat) : Nat → Rat
  | 0 => 0
  | m + 1 => sm f m + f m
theorem sm_add (f g : Nat → Rat) : ∀ m, sm (fun k => f k + g k) m = sm f m + sm g m
  | 0 => by simp only [sm]; grind
  | m + 1 => by simp only [sm, sm_add f g m]; grind
theorem sm_mul (c : Rat) (f : Nat → Rat) : ∀ m, sm (fun k => c * f k) m = c * sm f m
  | 0 => by simp only [sm]; grind
  | m + 1 => by simp only [sm, sm_mul c f m]; grind
theorem sm_congr {f g : Nat → Rat} : ∀ {m : Nat}, (∀ k, k < m → f k = g k) → sm f m = sm g m
  | 0, _ => rfl
  | m + 1, h => by
      have h1 := sm_congr (m := m) fun k hk => h k (by omega)
      have h2 := h m (by omega)
      simp only [sm, h1, h2]
theorem sm_zero {f : Nat → Rat} : ∀ {m : Nat}, (∀ k, k < m → f k = 0) → sm f m = 0
  | 0, _ => rfl
  | m + 1, h => by
      have h1 := sm_zero (m := m) fun k hk => h k (by omega)
      have h2 := h m (by omega)
      simp only [sm, h1, h2]; grind
theorem sm_front (f : Nat → Rat) : ∀ m, sm f (m + 1) = f 0 + sm (fun k => f (k + 1)) m
  | 0 => by simp only [sm]; grind
  | m + 1 => by rw [sm, sm_front f m]; simp only [sm]; grind
noncomputable def wt (p : Rat) : Nat → Nat → Rat
  | 0, 0 => 1
  | 0, _ + 1 => 0
  | n + 1, 0 => (1 - p) * wt p n 0
  | n + 1, k + 1 => (1 - p) * wt p n (k + 1) + p * wt p n k
theorem wt_zero (p : Rat) : ∀ n, wt p n 0 = (1 - p) ^ n
  | 0 => by rw [wt]; grind
  | n + 1 => by rw [wt, wt_zero p n]; grind
theorem wt_form (p : Rat) : ∀ n k, wt p n k = (binom n k : Rat) * p ^ k * (1 - p) ^ (n - k)
  | 0, 0 => by simp [wt, binom]
  | 0, k + 1 => by simp [wt, binom]
  | n + 1, 0 => by rw [wt_zero, b0]; simp
  | n + 1, k + 1 => by
      rw [wt, wt_form p n k, wt_form p n (k + 1), bs]
      have e : n + 1 - (k + 1) = n - k := by omega
      rw [e]
      by_cases h : k < n
      · have e2 : n - k = (n - (k + 1)) + 1 := by omega
        rw [e2]; push_cast; grind
      · rw [blt (show n < k + 1 by omega)]; push_cast; grind
theorem wt_nonneg {p : Rat} (h0 : 0 ≤ p) (h1 : p ≤ 1) : ∀ n k, 0 ≤ wt p n k
  | 0, 0 => by rw [wt]; decide
  | 0, k + 1 => by rw [wt]; decide
  | n + 1, 0 => by
      rw [wt]; exact Rat.mul_nonneg (by grind) (wt_nonneg h0 h1 n 0)
  | n + 1, k + 1 => by
      have a := Rat.mul_nonneg (show 0 ≤ 1 - p by grind) (wt_nonneg h0 h1 n (k + 1))
      have b := Rat.mul_nonneg h0 (wt_nonneg h0 h1 n k)
      rw [wt]; grind
noncomputable def cu (p : Rat) (n m : Nat) : Rat := sm (wt p n) m
theorem cu_step (p : Rat) (n m : Nat) : cu p (n + 1) (m + 1) = (1 - p) * cu p n (m + 1) + p * cu p n m := by
  simp only [cu]
  rw [sm_front, sm_front (wt p n)]
  have : sm (fun k => wt p (n + 1) (k + 1)) m = (1 - p) * sm (fun k => wt p n (k + 1)) m + p * sm (wt p n) m := by
    rw [← sm_mul, ← sm_mul, ← sm_add]; exact sm_congr fun k _ => by rw [wt]
  rw [this, wt]; grind
theorem cu_zero (p : Rat) (n : Nat) : cu p n 0 = 0 := rfl
theorem cu_all (p : Rat) : ∀ {n m : Nat}, n < m → cu p n m = 1
  | 0, m + 1, _ => by
      rw [cu, sm_front, sm_zero (fun k _ => by rw [wt]), wt]; grind
  | n + 1, m + 1, h => by rw [cu_step, cu_all p (show n < m + 1 by omega), cu_all p (show n < m by omega)]; grind
theorem cu_mono {p : Rat} (h0 : 0 ≤ p) (h1 : p ≤ 1) (n : Nat) {a : Nat} : ∀ {b : Nat}, a ≤ b → cu p n a ≤ cu p n b
  | 0, h => by have : a = 0 := by omega
               subst this; exact Rat.le_refl
  | b + 1, h => by
      by_cases e : a = b + 1
      · subst e; exact Rat.le_refl
      · have := cu_mono h0 h1 n (show a ≤ b by omega)
        have w := wt_nonneg h0 h1 n b
        simp only [cu, sm] at *; grind
theorem cu_nonneg {p : Rat} (h0 : 0 ≤ p) (h1 : p ≤ 1) (n m : Nat) : 0 ≤ cu p n m := by
  have := cu_mono h0 h1 n (show 0 ≤ m by omega); rw [cu_zero] at this; exact this
theorem cu_le {p : Rat} (h0 : 0 ≤ p) (h1 : p ≤ 1) (n m : Nat) : cu p n m ≤ 1 := by
  have := cu_mono h0 h1 n (show m ≤ m + n + 1 by omega); rw [cu_all p (show n < m + n + 1 by omega)] at this; exact this
noncomputable def rn (p : Rat) (n i d : Nat) : Rat := cu p n d - cu p n i
theorem rn_unit {p : Rat} (h0 : 0 ≤ p) (h1 : p ≤ 1) {n i d : Nat} (h : i ≤ d) : 0 ≤ rn p n i d ∧ rn p n i d ≤ 1 := by
  have a := cu_mono h0 h1 n h
  have b := cu_le h0 h1 n d
  have c := cu_nonneg h0 h1 n i
  unfold rn; constructor <;> grind
theorem rn_lip {p q : Rat} (h0 : 0 ≤ p) (h : p ≤ q) (h1 : q ≤ 1) : ∀ n {i d : Nat}, i ≤ d →
    rn q n i d - rn p n i d ≤ (n : Rat) * (q - p) ∧ rn p n i d - rn q n i d ≤ (n : Rat) * (q - p)
  | 0, i, d, hi => by
      have e : ∀ x, rn x 0 i d = rn p 0 i d := fun x => by
        unfold rn
        have : ∀ m, cu x 0 m = cu p 0 m := fun m => by
          cases m with
          | zero => rfl
          | succ m => rw [cu_all _ (by omega), cu_all _ (by omega)]
        rw [this, this]
      rw [e q]; push_cast; constructor <;> grind
  | n + 1, i, d, hi => by
      have key : ∀ x, rn x (n + 1) i d = (1 - x) * rn x n i d + x * rn x n (i - 1) (d - 1) := fun x => by
        unfold rn
        cases i with
        | zero =>
          cases d with
          | zero => simp only [cu_zero, Nat.zero_sub]; grind
          | succ d => rw [cu_step]; simp only [cu_zero, Nat.zero_sub, Nat.add_sub_cancel]; grind
        | succ i =>
          cases d with
          | zero => omega
          | succ d => rw [cu_step, cu_step]; simp only [Nat.add_sub_cancel]; grind
      obtain ⟨a1, a2⟩ := rn_lip h0 h h1 n hi
      obtain ⟨b1, b2⟩ := rn_lip h0 h h1 n (show i - 1 ≤ d - 1 by omega)
      have u1 := rn_unit h0 (by grind : p ≤ 1) (n := n) hi
      have u2 := rn_unit h0 (by grind : p ≤ 1) (n := n) (show i - 1 ≤ d - 1 by omega)
      rw [key q, key p]
      have x1 := rle a1 (show 0 ≤ 1 - q by grind)
      have x2 := rle a2 (show 0 ≤ 1 - q by grind)
      have y1 := rle b1 (show 0 ≤ q by grind)
      have y2 := rle b2 (show 0 ≤ q by grind)
      have z1 := rle (show rn p n (i - 1) (d - 1) - rn p n i d ≤ 1 by grind) (show 0 ≤ q - p by grind)
      have z2 := rle (show rn p n i d - rn p n (i - 1) (d - 1) ≤ 1 by grind) (show 0 ≤ q - p by grind)
      push_cast
      constructor <;> grind
end Gc
namespace Gc
open Ch
noncomputable def Cvx (G : Nat → Rat) : Prop := ∀ k, G (k + 1) - G k ≤ G (k + 2) - G (k + 1)
theorem Cvx.steps {G : Nat → Rat} (h : Cvx G) (a : Nat) : ∀ e, G (a + 1) - G a ≤ G (a + e + 1) - G (a + e)
  | 0 => Rat.le_refl
  | e + 1 => by
      have := h.steps a e
      have s := h (a + e)
      have e1 : a + (e + 1) = a + e + 1 := by omega
      have e2 : a + (e + 1) + 1 = a + e + 2 := by omega
      rw [e2, e1]; grind
theorem Cvx.up {G : Nat → Rat} (h : Cvx G) (a : Nat) : ∀ e : Nat, (e : Rat) * (G (a + 1) - G a) ≤ G (a + e) - G a
  | 0 => by have : a + 0 = a := rfl
            rw [this]; push_cast; grind
  | e + 1 => by
      have i := h.up a e
      have s := h.steps a e
      have e1 : a + (e + 1) = a + e + 1 := by omega
      rw [e1]; push_cast; grind
theorem castpos {e : Nat} (h : 0 < e) : (0 : Rat) < (e : Rat) := by exact_mod_cast h
theorem pos_of {e x : Rat} (he : 0 < e) (h : 0 < e * x) : 0 < x := by
  by_cases hx : 0 < x
  · exact hx
  · have := rle (show x ≤ 0 by grind) (show 0 ≤ e by grind); grind
theorem nonneg_of {e x : Rat} (he : 0 < e) (h : 0 ≤ e * x) : 0 ≤ x := by
  by_cases hx : 0 ≤ x
  · exact hx
  · have := Rat.mul_pos he (show 0 < -x by grind); grind
end Gc
namespace Gc
open Ch
theorem rden (r : Rat) : (0 : Int) < (r.den : Int) := by have := r.den_nz; omega
theorem rgcd (r : Rat) : Int.gcd r.num (r.den : Int) = 1 := by
  have := r.reduced
  rw [Int.gcd]; simpa [Nat.Coprime] using this
theorem rdenQ (r : Rat) : (r.den : Rat) ≠ 0 := by
  have := r.den_nz
  intro h; exact this (by exact_mod_cast h)
theorem rsplit (r : Rat) : r * (r.den : Rat) = (r.num : Rat) := by
  have h := Rat.mkRat_self r
  rw [Rat.mkRat_eq_div] at h
  have d := rdenQ r
  generalize (r.num : Rat) = x at *
  generalize (r.den : Rat) = y at *
  grind
theorem fr_rat {t b : Int} (h : b ≠ 0) {r : Rat} (e : r * (b : Rat) = (t : Rat)) : frT t b = r.num ∧ frB t b = (r.den : Int) := by
  refine fr_is h (rden r) (rgcd r) ?_
  have s := rsplit r
  have : ((t * (r.den : Int) : Int) : Rat) = ((r.num * b : Int) : Rat) := by push_cast; rw [← e, ← s]; grind
  exact_mod_cast this
theorem fr_plus (r s : Rat) : frT (r.num * s.den + s.num * r.den) (r.den * s.den) = (r + s).num
    ∧ frB (r.num * s.den + s.num * r.den) (r.den * s.den) = ((r + s).den : Int) := by
  refine fr_rat (mul_ne (rden r) (rden s)) ?_
  have a := rsplit r; have b := rsplit s
  push_cast; rw [← a, ← b]; grind
theorem fr_minus (r s : Rat) : frT (r.num * s.den - s.num * r.den) (r.den * s.den) = (r - s).num
    ∧ frB (r.num * s.den - s.num * r.den) (r.den * s.den) = ((r - s).den : Int) := by
  refine fr_rat (mul_ne (rden r) (rden s)) ?_
  have a := rsplit r; have b := rsplit s
  push_cast; rw [← a, ← b]; grind
theorem castlt {a b : Int} : ((a : Rat) < (b : Rat)) ↔ a < b := Rat.intCast_lt_intCast
theorem r_under (r s : Rat) : r.num * (s.den : Int) < s.num * (r.den : Int) ↔ r < s := by
  have a := rsplit r; have b := rsplit s
  have dr : (0 : Rat) < (r.den : Rat) := by exact_mod_cast (show 0 < r.den by have := r.den_nz; omega)
  have ds : (0 : Rat) < (s.den : Rat) := by exact_mod_cast (show 0 < s.den by have := s.den_nz; omega)
  have p := Rat.mul_pos dr ds
  rw [← castlt]; push_cast; rw [← a, ← b]
  constructor
  · intro h
    have := pos_of p (x := s - r) (by grind); grind
  · intro h
    have := Rat.mul_pos p (show 0 < s - r by grind); grind
theorem r_same {r s : Rat} (h1 : r.num = s.num) (h2 : (r.den : Int) = (s.den : Int)) : r = s := by
  apply Rat.ext h1; exact_mod_cast h2
theorem r_nonneg (r : Rat) : 0 ≤ r.num ↔ 0 ≤ r := Rat.num_nonneg
theorem r_le1 (r : Rat) : r.num ≤ (r.den : Int) ↔ r ≤ 1 := by
  have := r_under 1 r
  have e1 : (1 : Rat).num = 1 := rfl
  have e2 : ((1 : Rat).den : Int) = 1 := rfl
  rw [e1, e2] at this
  constructor
  · intro h
    by_cases c : 1 < r
    · exact absurd (this.mpr c) (by omega)
    · grind
  · intro h
    by_cases c : 1 * (r.den : Int) < r.num * 1
    · have := this.mp c; grind
    · omega
noncomputable def rq (t b : Int) : Rat := (t : Rat) / (b : Rat)
noncomputable def Ov (B : Nat) (r : Rat) : Prop := ∃ m : Int, r * (B : Rat) = (m : Rat)
theorem Ov.dvd {B : Nat} {r : Rat} (h : Ov B r) : r.den ∣ B := by
  obtain ⟨m, hm⟩ := h
  have s := rsplit r
  have : ((r.num * (B : Int) : Int) : Rat) = ((m * (r.den : Int) : Int) : Rat) := by push_cast; rw [← hm, ← s]; grind
  have e : r.num * (B : Int) = m * (r.den : Int) := by exact_mod_cast this
  have d : (r.den : Int) ∣ (B : Int) := dvd_cop (k := (r.den : Int)) (m := r.num) ⟨m, by rw [e]; exact Int.mul_comm _ _⟩ (by rw [Int.gcd_comm]; exact rgcd r)
  exact_mod_cast d
theorem Ov.self (r : Rat) : Ov r.den r := ⟨r.num, rsplit r⟩
theorem Ov.add {B : Nat} {r s : Rat} (h : Ov B r) (k : Ov B s) : Ov B (r + s) := by
  obtain ⟨a, ha⟩ := h; obtain ⟨b, hb⟩ := k
  exact ⟨a + b, by push_cast; rw [← ha, ← hb]; grind⟩
theorem Ov.sub {B : Nat} {r s : Rat} (h : Ov B r) (k : Ov B s) : Ov B (r - s) := by
  obtain ⟨a, ha⟩ := h; obtain ⟨b, hb⟩ := k
  exact ⟨a - b, by push_cast; rw [← ha, ← hb]; grind⟩
theorem Ov.mul {A B : Nat} {r s : Rat} (h : Ov A r) (k : Ov B s) : Ov (A * B) (r * s) := by
  obtain ⟨a, ha⟩ := h; obtain ⟨b, hb⟩ := k
  exact ⟨a * b, by push_cast; rw [← ha, ← hb]; grind⟩
theorem Ov.up {A B : Nat} {r : Rat} (h : Ov A r) (k : A ∣ B) : Ov B r := by
  obtain ⟨c, rfl⟩ := k
  obtain ⟨a, ha⟩ := h
  exact ⟨a * c, by push_cast; rw [← ha]; grind⟩
theorem Ov.one (B : Nat) : Ov B 1 := ⟨(B : Int), by push_cast; grind⟩
theorem wt_ov {p : Rat} {B : Nat} (h : Ov B p) : ∀ n k, Ov (B ^ n) (wt p n k)
  | 0, 0 => by rw [wt]; exact Ov.one _
  | 0, k + 1 => by rw [wt]; exact ⟨0, by simp⟩
  | n + 1, 0 => by rw [wt, Nat.pow_succ, Nat.mul_comm]; exact ((Ov.one B).sub h).mul (wt_ov h n 0)
  | n + 1, k + 1 => by
      rw [wt, Nat.pow_succ, Nat.mul_comm]
      exact (((Ov.one B).sub h).mul (wt_ov h n (k + 1))).add (h.mul (wt_ov h n k))
theorem sm_ov {B : Nat} {f : Nat → Rat} (h : ∀ k, Ov B (f k)) : ∀ m, Ov B (sm f m)
  | 0 => ⟨0, by simp [sm]⟩
  | m + 1 => (sm_ov h m).add (h m)
theorem cu_ov {p : Rat} {B : Nat} (h : Ov B p) (n m : Nat) : Ov (B ^ n) (cu p n m) := sm_ov (wt_ov h n) m
theorem rn_ov {p : Rat} {B : Nat} (h : Ov B p) (n i d : Nat) : Ov (B ^ n) (rn p n i d) := (cu_ov h n d).sub (cu_ov h n i)
structure RSz (n : Nat) (r : Rat) : Prop where
  t : Sz n r.num
  b : Sz n (r.den : Int)
theorem RSz.of {n B : Nat} {r : Rat} (h : Ov B r) (hB : 0 < B) (hn : B < 2 ^ n) (h0 : 0 ≤ r) (h1 : r ≤ 1) : RSz n r := by
  have a := (r_nonneg r).mpr h0
  have b := (r_le1 r).mpr h1
  have c := Nat.le_of_dvd hB h.dvd
  constructor <;> (unfold Sz; omega)
theorem powlt {b m : Nat} (h : b < 2 ^ m) : ∀ {n : Nat}, 0 < n → b ^ n < 2 ^ (m * n)
  | 1, _ => by simpa using h
  | n + 2, _ => by
      have i := powlt (b := b) h (show 0 < n + 1 by omega)
      have e : b ^ (n + 2) = b ^ (n + 1) * b := Nat.pow_succ b (n + 1)
      have e2 : 2 ^ (m * (n + 2)) = 2 ^ (m * (n + 1)) * 2 ^ m := by rw [← Nat.pow_add]; congr 1
      rw [e, e2]
      exact Nat.mul_lt_mul'' i h
end Gc
namespace Gc
open Ch
theorem rmul_pow (a b : Rat) : ∀ n : Nat, (a * b) ^ n = a ^ n * b ^ n
  | 0 => by simp
  | n + 1 => by rw [Rat.pow_succ, Rat.pow_succ, Rat.pow_succ, rmul_pow a b n]; grind
theorem rpow_add (a : Rat) (m : Nat) : ∀ n : Nat, a ^ (m + n) = a ^ m * a ^ n
  | 0 => by simp
  | n + 1 => by rw [← Nat.add_assoc, Rat.pow_succ, Rat.pow_succ, rpow_add a m n]; grind
theorem icast_pow (a : Int) : ∀ n : Nat, ((a ^ n : Int) : Rat) = (a : Rat) ^ n
  | 0 => by simp
  | n + 1 => by rw [Int.pow_succ, Rat.pow_succ, ← icast_pow a n]; push_cast; rfl
noncomputable def wtop (p : Rat) (n k : Nat) : Int := (binom n k : Int) * p.num ^ k * ((p.den : Int) - p.num) ^ (n - k)
theorem wtop_is (p : Rat) {n k : Nat} (h : k ≤ n) : wt p n k * (((p.den : Int) ^ n : Int) : Rat) = ((wtop p n k : Int) : Rat) := by
  obtain ⟨m, rfl⟩ := Nat.exists_eq_add_of_le h
  have s := rsplit p
  have e1 : k + m - k = m := by omega
  rw [wt_form, wtop, e1, icast_pow, rpow_add]
  push_cast
  have a1 : p ^ k * (p.den : Rat) ^ k = (p.num : Rat) ^ k := by rw [← rmul_pow, s]
  have a2 : (1 - p) * (p.den : Rat) = (p.den : Rat) - (p.num : Rat) := by rw [← s]; grind
  have a3 : (1 - p) ^ m * (p.den : Rat) ^ m = ((p.den : Rat) - (p.num : Rat)) ^ m := by rw [← rmul_pow, a2]
  have i1 : ((p.num ^ k : Int) : Rat) = (p.num : Rat) ^ k := icast_pow _ _
  have i2 : ((((p.den : Int) - p.num) ^ m : Int) : Rat) = ((p.den : Rat) - (p.num : Rat)) ^ m := by rw [icast_pow]; push_cast; rfl
  first
  | rw [i1, i2, ← a1, ← a3]
  | rw [← a1, ← a3]
  generalize p ^ k = x
  generalize (1 - p) ^ m = y
  grind
noncomputable def ism (f : Nat → Int) : Nat → Int
  | 0 => 0
  | m + 1 => ism f m + f m
theorem ism_cast {f : Nat → Int} {g : Nat → Rat} {c : Rat} : ∀ {m : Nat}, (∀ k, k < m → g k * c = (f k : Rat)) → sm g m * c = ((ism f m : Int) : Rat)
  | 0, _ => by simp only [sm, ism]; push_cast; grind
  | m + 1, h => by
      have i := ism_cast (m := m) fun k hk => h k (by omega)
      have j := h m (by omega)
      simp only [sm, ism]; push_cast; grind
theorem Sz.powN {m : Nat} {b : Int} (h : Sz m b) : ∀ i : Nat, Sz (m * i + 1) (b ^ i)
  | 0 => by rw [Int.pow_zero, Nat.mul_zero]; show (1 : Int).natAbs < 2 ^ 1; decide
  | i + 1 => by
      rw [Int.pow_succ]
      exact ((Sz.powN h i).mul h).mono (by rw [Nat.mul_succ]; omega)
theorem binom_le : ∀ n k : Nat, binom n k ≤ 2 ^ n
  | 0, 0 => by decide
  | 0, k + 1 => by simp [binom]
  | n + 1, 0 => by rw [b0]; exact Nat.one_le_two_pow
  | n + 1, k + 1 => by
      have a := binom_le n k
      have b := binom_le n (k + 1)
      rw [bs, Nat.pow_succ]; omega
theorem sz_binom (n k : Nat) : Sz (n + 1) (binom n k : Int) := by
  unfold Sz
  have := binom_le n k
  rw [Nat.pow_succ]
  have : 0 < 2 ^ n := Nat.two_pow_pos n
  omega
theorem sz_sub {m : Nat} {a b : Int} (h0 : 0 ≤ a) (h1 : a ≤ b) (sb : Sz m b) : Sz m (b - a) := by unfold Sz at *; omega
theorem sz_le {m : Nat} {a b : Int} (h0 : 0 ≤ a) (h1 : a ≤ b) (sb : Sz m b) : Sz m a := by unfold Sz at *; omega
end Gc
namespace Gc
open Ch
noncomputable def rsum (p : Rat) (n i j : Nat) : Rat := rn p n i (max i (j + 1))
theorem rsum_le {p : Rat} {n i j : Nat} (h : i ≤ j) : rsum p n i j = rn p n i (j + 1) := by unfold rsum; rw [Nat.max_eq_right (by omega)]
theorem rsum_unit {p : Rat} (h0 : 0 ≤ p) (h1 : p ≤ 1) (n i j : Nat) : 0 ≤ rsum p n i j ∧ rsum p n i j ≤ 1 := rn_unit h0 h1 (Nat.le_max_left _ _)
theorem rsum_ov {p : Rat} {B : Nat} (h : Ov B p) (n i j : Nat) : Ov (B ^ n) (rsum p n i j) := rn_ov h n i _
end Gc
namespace Gc
noncomputable def lower (r : Rat) : List Rat → Nat
  | [] => 0
  | x :: xs => if x < r then lower r xs + 1 else 0
noncomputable def insR (r : Rat) (l : List Rat) : List Rat := l.take (lower r l) ++ r :: l.drop (lower r l)
theorem lower_le (r : Rat) : ∀ l : List Rat, lower r l ≤ l.length
  | [] => Nat.le_refl _
  | x :: xs => by
    have := lower_le r xs
    rw [lower]; split <;> (simp only [List.length_cons]; omega)
theorem lower_lt {r : Rat} : ∀ {l : List Rat} {i : Nat} {x : Rat}, i < lower r l → l[i]? = some x → x < r
  | y :: ys, 0, x, h, e => by
    rw [List.getElem?_cons_zero] at e; cases e
    rw [lower] at h
    by_cases c : y < r
    · exact c
    · rw [if_neg c] at h; omega
  | y :: ys, i + 1, x, h, e => by
    rw [List.getElem?_cons_succ] at e
    rw [lower] at h
    by_cases c : y < r
    · rw [if_pos c] at h; exact lower_lt (by omega) e
    · rw [if_neg c] at h; omega
theorem lower_at {r : Rat} : ∀ {l : List Rat} {x : Rat}, l[lower r l]? = some x → ¬ x < r
  | y :: ys, x, e => by
    rw [lower] at e
    by_cases c : y < r
    · rw [if_pos c, List.getElem?_cons_succ] at e; exact lower_at e
    · rw [if_neg c, List.getElem?_cons_zero] at e; cases e; exact c
theorem insR_len (r : Rat) (l : List Rat) : (insR r l).length = l.length + 1 := by
  have := lower_le r l
  unfold insR; simp; omega
theorem insR_mem {r x : Rat} {l : List Rat} : x ∈ insR r l ↔ x = r ∨ x ∈ l := by
  have := List.take_append_drop (lower r l) l
  unfold insR
  constructor
  · intro h
    rcases List.mem_append.mp h with h | h
    · exact .inr (List.mem_of_mem_take h)
    · rcases List.mem_cons.mp h with h | h
      · exact .inl h
      · exact .inr (List.mem_of_mem_drop h)
  · rintro (h | h)
    · subst h; simp
    · rw [← this] at h
      rcases List.mem_append.mp h with h | h
      · exact List.mem_append.mpr (.inl h)
      · exact List.mem_append.mpr (.inr (List.mem_cons_of_mem _ h))
noncomputable abbrev Up (l : List Rat) : Prop := l.Pairwise (· ≤ ·)
theorem Up.at {l : List Rat} (h : Up l) {i j : Nat} {x y : Rat} (hij : i ≤ j) (ex : l[i]? = some x) (ey : l[j]? = some y) : x ≤ y := by
  by_cases e : i = j
  · subst e; rw [ex] at ey; cases ey; exact Rat.le_refl
  · obtain ⟨hi, rfl⟩ := List.getElem?_eq_some_iff.mp ex
    obtain ⟨hj, rfl⟩ := List.getElem?_eq_some_iff.mp ey
    exact List.pairwise_iff_getElem.mp h i j hi hj (by omega)
end Gc
namespace Gc
noncomputable def upto (p : Rat) : List Rat → Nat
  | [] => 0
  | x :: xs => if x ≤ p then upto p xs + 1 else 0
theorem upto_len (p : Rat) : ∀ l : List Rat, upto p l ≤ l.length
  | [] => Nat.le_refl _
  | x :: xs => by
    have := upto_len p xs
    rw [upto]; split <;> (simp only [List.length_cons]; omega)
theorem upto_lt {p : Rat} : ∀ {l : List Rat} {i : Nat} {x : Rat}, i < upto p l → l[i]? = some x → x ≤ p
  | y :: ys, 0, x, h, e => by
    rw [List.getElem?_cons_zero] at e; cases e
    rw [upto] at h
    by_cases c : y ≤ p
    · exact c
    · rw [if_neg c] at h; omega
  | y :: ys, i + 1, x, h, e => by
    rw [List.getElem?_cons_succ] at e
    rw [upto] at h
    by_cases c : y ≤ p
    · rw [if_pos c] at h; exact upto_lt (by omega) e
    · rw [if_neg c] at h; omega
theorem upto_at {p : Rat} : ∀ {l : List Rat} {x : Rat}, l[upto p l]? = some x → ¬ x ≤ p
  | y :: ys, x, e => by
    rw [upto] at e
    by_cases c : y ≤ p
    · rw [if_pos c, List.getElem?_cons_succ] at e; exact upto_at e
    · rw [if_neg c, List.getElem?_cons_zero] at e; cases e; exact c
theorem upto_iff {p : Rat} {l : List Rat} (u : Up l) {i : Nat} {x : Rat} (e : l[i]? = some x) : i < upto p l ↔ x ≤ p := by
  constructor
  · exact fun h => upto_lt h e
  · intro h
    by_cases c : i < upto p l
    · exact c
    · exfalso
      have hi : i < l.length := (List.getElem?_eq_some_iff.mp e).1
      have hu : upto p l < l.length := by omega
      have e0 := List.getElem?_eq_getElem hu
      have := u.at (show upto p l ≤ i by omega) e0 e
      exact upto_at e0 (by grind)
theorem lower_iff {p : Rat} {l : List Rat} (u : Up l) {i : Nat} {x : Rat} (e : l[i]? = some x) : i < lower p l ↔ x < p := by
  constructor
  · exact fun h => lower_lt h e
  · intro h
    by_cases c : i < lower p l
    · exact c
    · exfalso
      have hi : i < l.length := (List.getElem?_eq_some_iff.mp e).1
      have hu : lower p l < l.length := by omega
      have e0 := List.getElem?_eq_getElem hu
      have := u.at (show lower p l ≤ i by omega) e0 e
      exact lower_at e0 (by grind)
theorem upto_mono {p q : Rat} (h : p ≤ q) : ∀ l : List Rat, upto p l ≤ upto q l
  | [] => Nat.le_refl _
  | x :: xs => by
    have := upto_mono h xs
    rw [upto, upto]
    by_cases c : x ≤ p
    · rw [if_pos c, if_pos (by grind)]; omega
    · rw [if_neg c]; omega
theorem lower_mono {p q : Rat} (h : p ≤ q) : ∀ l : List Rat, lower p l ≤ lower q l
  | [] => Nat.le_refl _
  | x :: xs => by
    have := lower_mono h xs
    rw [lower, lower]
    by_cases c : x < p
    · rw [if_pos c, if_pos (by grind)]; omega
    · rw [if_neg c]; omega
noncomputable def cov (n : Nat) (ls hs : List Rat) (a b p : Rat) : Rat := rn p n (lower b hs) (max (lower b hs) (upto a ls))
theorem held_iff {ls hs : List Rat} (u1 : Up ls) (u2 : Up hs) {a b l h : Rat} {k : Nat} (e1 : ls[k]? = some l) (e2 : hs[k]? = some h) : (lower b hs ≤ k ∧ k < upto a ls) ↔ (l ≤ a ∧ b ≤ h) := by
  have x := upto_iff (p := a) u1 e1
  have y := lower_iff (p := b) u2 e2
  constructor
  · rintro ⟨h1, h2⟩
    refine ⟨x.mp h2, ?_⟩
    have : ¬ h < b := fun z => by have := y.mpr z; omega
    grind
  · rintro ⟨h1, h2⟩
    refine ⟨?_, x.mpr h1⟩
    by_cases z : k < lower b hs
    · have := y.mp z; grind
    · omega
theorem upto_same {ls : List Rat} (u : Up ls) {a p : Rat} (h : a ≤ p) (none : ∀ x ∈ ls, ¬ (a < x ∧ x ≤ p)) : upto p ls = upto a ls := by
  have m := upto_mono h ls
  by_cases c : upto p ls = upto a ls
  · exact c
  · exfalso
    have hl : upto a ls < upto p ls := by omega
    have hlen : upto a ls < ls.length := Nat.lt_of_lt_of_le hl (upto_len p ls)
    have e := List.getElem?_eq_getElem hlen
    have z1 := upto_lt hl e
    have z2 := upto_at e
    exact none _ (List.getElem_mem hlen) ⟨by grind, z1⟩
theorem lower_same {hs : List Rat} (u : Up hs) {p b : Rat} (h : p ≤ b) (none : ∀ x ∈ hs, ¬ (p ≤ x ∧ x < b)) : lower p hs = lower b hs := by
  have m := lower_mono h hs
  by_cases c : lower p hs = lower b hs
  · exact c
  · exfalso
    have hl : lower p hs < lower b hs := by omega
    have hlen : lower p hs < hs.length := Nat.lt_of_lt_of_le hl (lower_le b hs)
    have e := List.getElem?_eq_getElem hlen
    have z1 := lower_lt hl e
    have z2 := lower_at e
    exact none _ (List.getElem_mem hlen) ⟨by grind, z1⟩
end Gc
namespace Gc
end Gc
namespace Gc
noncomputable def insE (r : Rat) (l : List Rat) : List Rat := l.take (upto r l) ++ r :: l.drop (upto r l)
noncomputable def ord : List Rat → List Rat := List.foldl (fun acc r => insE r acc) []
theorem upto_cnt {r : Rat} : ∀ {l : List Rat}, Up l → (l.filter fun x => decide (x ≤ r)).length = upto r l
  | [], _ => rfl
  | x :: xs, u => by
    obtain ⟨h1, h2⟩ := List.pairwise_cons.mp u
    rw [upto]
    by_cases c : x ≤ r
    · rw [if_pos c, List.filter_cons_of_pos (by simpa using c), List.length_cons, upto_cnt h2]
    · rw [if_neg c, List.filter_cons_of_neg (by simpa using c)]
      have : (xs.filter fun x => decide (x ≤ r)) = [] := List.filter_eq_nil_iff.mpr fun y hy => by
        have := h1 y hy
        simp; grind
      rw [this]; rfl
theorem insE_len (r : Rat) (l : List Rat) : (insE r l).length = l.length + 1 := by
  have := upto_len r l
  unfold insE; simp; omega
theorem insE_mem {r x : Rat} {l : List Rat} : x ∈ insE r l ↔ x = r ∨ x ∈ l := by
  have := List.take_append_drop (upto r l) l
  unfold insE
  constructor
  · intro h
    rcases List.mem_append.mp h with h | h
    · exact .inr (List.mem_of_mem_take h)
    · rcases List.mem_cons.mp h with h | h
      · exact .inl h
      · exact .inr (List.mem_of_mem_drop h)
  · rintro (h | h)
    · subst h; simp
    · rw [← this] at h
      rcases List.mem_append.mp h with h | h
      · exact List.mem_append.mpr (.inl h)
      · exact List.mem_append.mpr (.inr (List.mem_cons_of_mem _ h))
theorem insE_up {r : Rat} {l : List Rat} (h : Up l) : Up (insE r l) := by
  unfold insE Up
  refine List.pairwise_append.mpr ⟨h.sublist (List.take_sublist _ _), List.pairwise_cons.mpr ⟨fun y hy => ?_, h.sublist (List.drop_sublist _ _)⟩, fun x hx y hy => ?_⟩
  · obtain ⟨j, hj⟩ := List.mem_iff_getElem?.mp hy
    rw [List.getElem?_drop] at hj
    have hlt : upto r l < l.length := by
      obtain ⟨hk, _⟩ := List.getElem?_eq_some_iff.mp hj; omega
    have e0 := List.getElem?_eq_getElem hlt
    have n := upto_at e0
    have := h.at (show upto r l ≤ upto r l + j by omega) e0 hj
    grind
  · obtain ⟨i, hi⟩ := List.mem_iff_getElem?.mp hx
    rw [List.getElem?_take] at hi
    by_cases c : i < upto r l
    · rw [if_pos c] at hi
      have xr := upto_lt c hi
      rcases List.mem_cons.mp hy with e | hy
      · subst e; exact xr
      · obtain ⟨j, hj⟩ := List.mem_iff_getElem?.mp hy
        rw [List.getElem?_drop] at hj
        exact h.at (by omega) hi hj
    · rw [if_neg c] at hi; cases hi
theorem ord_snoc (l : List Rat) (r : Rat) : ord (l ++ [r]) = insE r (ord l) := by unfold ord; rw [List.foldl_append]; rfl
theorem ord_up : ∀ (n : Nat) (l : List Rat), l.length = n → Up (ord l) ∧ (ord l).length = n ∧ ∀ x, x ∈ ord l ↔ x ∈ l
  | 0, l, h => by
    have : l = [] := List.length_eq_zero_iff.mp h
    subst this
    exact ⟨List.Pairwise.nil, rfl, fun x => Iff.rfl⟩
  | n + 1, l, h => by
    obtain ⟨l', r, rfl⟩ : ∃ l' r, l = l' ++ [r] := by
      cases e : l.reverse with
      | nil =>
        have : l = [] := List.reverse_eq_nil_iff.mp e
        subst this; cases h
      | cons r t => exact ⟨t.reverse, r, by rw [← List.reverse_reverse l, e]; simp⟩
    have hl : l'.length = n := by simpa using h
    obtain ⟨a, b, c⟩ := ord_up n l' hl
    rw [ord_snoc]
    refine ⟨insE_up a, by rw [insE_len, b], fun x => ?_⟩
    rw [insE_mem, c x]
    simp [or_comm]
end Gc
namespace Gc
noncomputable abbrev Inc (l : List Rat) : Prop := l.Pairwise (· < ·)
theorem Inc.up {l : List Rat} (h : Inc l) : Up l := List.Pairwise.imp (fun h => by grind) h
noncomputable def addE (acc : List Rat) (r : Rat) : List Rat := if r ∈ acc then acc else insR r acc
noncomputable def edg (l : List Rat) : List Rat := l.foldl addE []
theorem edg_snoc (l : List Rat) (r : Rat) : edg (l ++ [r]) = addE (edg l) r := by unfold edg; rw [List.foldl_append]; rfl
theorem insR_inc {r : Rat} {l : List Rat} (h : Inc l) (hr : r ∉ l) : Inc (insR r l) := by
  unfold insR
  have hu := h.up
  refine List.pairwise_append.mpr ⟨h.sublist (List.take_sublist _ _), List.pairwise_cons.mpr ⟨?_, h.sublist (List.drop_sublist _ _)⟩, ?_⟩
  · intro x hx
    obtain ⟨i, hi⟩ := List.mem_iff_getElem?.mp hx
    rw [List.getElem?_drop] at hi
    have h1 : ¬ x < r := fun c => by
      have := (lower_iff hu hi (p := r)).mpr c
      omega
    have h2 : x ≠ r := fun e => hr (e ▸ List.mem_of_getElem? hi)
    grind
  · intro x hx y hy
    obtain ⟨i, hi⟩ := List.mem_iff_getElem?.mp hx
    have hil : i < lower r l := by
      have := (List.getElem?_eq_some_iff.mp hi).1
      simp at this
      omega
    rw [List.getElem?_take_of_lt hil] at hi
    have hxr := lower_lt hil hi
    rcases List.mem_cons.mp hy with rfl | hy
    · exact hxr
    · obtain ⟨j, hj⟩ := List.mem_iff_getElem?.mp hy
      rw [List.getElem?_drop] at hj
      have h1 : ¬ y < r := fun c => by
        have := (lower_iff hu hj (p := r)).mpr c
        omega
      grind
theorem addE_inc {r : Rat} {l : List Rat} (h : Inc l) : Inc (addE l r) := by
  unfold addE
  split
  · exact h
  · exact insR_inc h ‹_›
theorem addE_mem {r x : Rat} {l : List Rat} : x ∈ addE l r ↔ x = r ∨ x ∈ l := by
  unfold addE
  split
  · constructor
    · exact .inr
    · rintro (rfl | h)
      · assumption
      · exact h
  · exact insR_mem
theorem edg_ok (l : List Rat) : Inc (edg l) ∧ ∀ x, x ∈ edg l ↔ x ∈ l := by
  have : ∀ (n : Nat) (l : List Rat), l.length = n → Inc (edg l) ∧ ∀ x, x ∈ edg l ↔ x ∈ l := by
    intro n
    induction n with
    | zero =>
      intro l hl
      have : l = [] := List.eq_nil_of_length_eq_zero hl
      subst this
      exact ⟨List.Pairwise.nil, fun x => Iff.rfl⟩
    | succ n ih =>
      intro l hl
      rcases List.eq_nil_or_concat l with e | ⟨l', r, e⟩
      · rw [e] at hl; simp at hl
      · rw [List.concat_eq_append] at e
        subst e
        obtain ⟨i1, i2⟩ := ih l' (by simp at hl; exact hl)
        rw [edg_snoc]
        refine ⟨addE_inc i1, fun x => ?_⟩
        rw [addE_mem, i2, List.mem_append, List.mem_singleton]
        constructor
        · rintro (h | h)
          · exact .inr h
          · exact .inl h
        · rintro (h | h)
          · exact .inr h
          · exact .inl h
  exact this _ l rfl
theorem addE_len (l : List Rat) (r : Rat) : (addE l r).length ≤ l.length + 1 := by
  unfold addE
  split
  · omega
  · rw [insR_len]; omega
theorem edg_len (l : List Rat) : (edg l).length ≤ l.length := by
  have : ∀ (n : Nat) (l : List Rat), l.length = n → (edg l).length ≤ n := by
    intro n
    induction n with
    | zero =>
      intro l hl
      have : l = [] := List.eq_nil_of_length_eq_zero hl
      subst this
      exact Nat.le_refl _
    | succ n ih =>
      intro l hl
      rcases List.eq_nil_or_concat l with e | ⟨l', r, e⟩
      · rw [e] at hl; simp at hl
      · rw [List.concat_eq_append] at e
        subst e
        have := ih l' (by simp at hl; exact hl)
        have := addE_len (edg l') r
        rw [edg_snoc]
        omega
  exact this _ l rfl
theorem inc_gap {l : List Rat} (h : Inc l) {k : Nat} {a b : Rat} (ea : l[k]? = some a) (eb : l[k + 1]? = some b) : a < b ∧ ∀ x ∈ l, ¬ (a < x ∧ x < b) := by
  have hu := h.up
  have h1 : a < b := by
    obtain ⟨h1, e1⟩ := List.getElem?_eq_some_iff.mp ea
    obtain ⟨h2, e2⟩ := List.getElem?_eq_some_iff.mp eb
    rw [← e1, ← e2]
    exact List.pairwise_iff_getElem.mp h k (k + 1) h1 h2 (by omega)
  refine ⟨h1, fun x hx => ?_⟩
  obtain ⟨i, hi⟩ := List.mem_iff_getElem?.mp hx
  rintro ⟨c1, c2⟩
  by_cases z : i ≤ k
  · have := hu.at z hi ea; grind
  · have := hu.at (show k + 1 ≤ i by omega) eb hi; grind
end Gc
namespace Gc
end Gc
namespace Gc
open Ch
noncomputable def wtI (t b : Int) (n k : Nat) : Int := (binom n k : Int) * t ^ k * (b - t) ^ (n - k)
theorem wtI_is {r : Rat} {t b : Int} (e : r * (b : Rat) = (t : Rat)) {n k : Nat} (h : k ≤ n) : wt r n k * ((b ^ n : Int) : Rat) = ((wtI t b n k : Int) : Rat) := by
  obtain ⟨m, rfl⟩ := Nat.exists_eq_add_of_le h
  have e1 : k + m - k = m := by omega
  rw [wt_form, wtI, e1, icast_pow, rpow_add]
  have a1 : r ^ k * (b : Rat) ^ k = (t : Rat) ^ k := by rw [← rmul_pow, e]
  have a2 : (1 - r) * (b : Rat) = (b : Rat) - (t : Rat) := by rw [← e]; grind
  have a3 : (1 - r) ^ m * (b : Rat) ^ m = ((b : Rat) - (t : Rat)) ^ m := by rw [← rmul_pow, a2]
  have i1 : ((t ^ k : Int) : Rat) = (t : Rat) ^ k := icast_pow _ _
  have i2 : (((b - t) ^ m : Int) : Rat) = ((b : Rat) - (t : Rat)) ^ m := by rw [icast_pow, Rat.intCast_sub]
  rw [Rat.intCast_mul, Rat.intCast_mul, i1, i2, ← a1, ← a3, Rat.intCast_natCast]
  generalize r ^ k = x
  generalize (1 - r) ^ m = y
  grind
theorem sm_sel {f : Nat → Rat} {i j : Nat} : ∀ m, sm (fun k => if i ≤ k ∧ k < j then f k else 0) m = sm f (min m (max i j)) - sm f (min m i)
  | 0 => by simp [sm]; grind
  | m + 1 => by
    have ih := sm_sel (f := f) (i := i) (j := j) m
    show sm (fun k => if i ≤ k ∧ k < j then f k else 0) m + (if i ≤ m ∧ m < j then f m else 0) = _
    rw [ih]
    by_cases c1 : i ≤ m
    · by_cases c2 : m < j
      · rw [if_pos ⟨c1, c2⟩]
        have e1 : min (m + 1) (max i j) = min m (max i j) + 1 := by omega
        have e2 : min m (max i j) = m := by omega
        have e3 : min (m + 1) i = min m i := by omega
        rw [e1, e3]
        show _ = sm f (min m (max i j)) + f (min m (max i j)) - _
        rw [e2]
        grind
      · rw [if_neg (by omega)]
        have e1 : min (m + 1) (max i j) = min m (max i j) := by omega
        have e3 : min (m + 1) i = min m i := by omega
        rw [e1, e3]
        grind
    · rw [if_neg (by omega)]
      have e1 : min (m + 1) (max i j) = m + 1 := by omega
      have e2 : min m (max i j) = m := by omega
      have e3 : min (m + 1) i = m + 1 := by omega
      have e4 : min m i = m := by omega
      rw [e1, e2, e3, e4]
      grind
noncomputable def hT (ls hs : List Rat) (r : Rat) (t b : Int) (n : Nat) (k : Nat) : Int := if lower r hs ≤ k ∧ k < upto r ls then wtI t b n k else 0
theorem hT_is {ls hs : List Rat} {r : Rat} {t b : Int} {n : Nat} (l1 : ls.length ≤ n + 1) (l2 : hs.length ≤ n + 1) (e : r * (b : Rat) = (t : Rat)) : cov n ls hs r r r * ((b ^ n : Int) : Rat) = ((ism (hT ls hs r t b n) (n + 1) : Int) : Rat) := by
  have a := ism_cast (f := hT ls hs r t b n) (g := fun k => if lower r hs ≤ k ∧ k < upto r ls then wt r n k else 0) (c := ((b ^ n : Int) : Rat)) (m := n + 1) fun k hk => by
    unfold hT
    by_cases c : lower r hs ≤ k ∧ k < upto r ls
    · rw [if_pos c, if_pos c]
      exact wtI_is e (by omega)
    · rw [if_neg c, if_neg c]
      show (0 : Rat) * _ = _
      rw [Rat.zero_mul] <;> rfl
  rw [← a, sm_sel]
  have u1 := upto_len r ls
  have u2 := lower_le r hs
  have e1 : min (n + 1) (max (lower r hs) (upto r ls)) = max (lower r hs) (upto r ls) := by omega
  have e2 : min (n + 1) (lower r hs) = lower r hs := by omega
  rw [e1, e2] <;> rfl
end Gc
set_option maxRecDepth 10000
namespace Gc
open Ch
noncomputable def Bt (l0 l1 h0 h1 y1 y2 : Int) : Prop := 0 < y2 ∧ Int.gcd y1 y2 = 1 ∧ l0 * y2 < y1 * l1 ∧ y1 * h1 < h0 * y2
noncomputable def simF : Nat → Int → Int → Int → Int → Int → Int → Int → Int → Int × Int
  | 0, _, _, _, _, _, _, _, _ => (0, 1)
  | k + 1, l0, l1, h0, h1, a, b, c, d => if h0 ≤ (l0 / l1 + 1) * h1 then simF k h1 (h0 - l0 / l1 * h1) l1 (l0 - l0 / l1 * l1) (l0 / l1 * a + c) (l0 / l1 * b + d) a b else ((l0 / l1 + 1) * a + c, (l0 / l1 + 1) * b + d)
structure SI (Z A B l0 l1 h0 h1 a b c d : Int) : Prop where
  l0p : 0 ≤ l0
  l1p : 0 < l1
  h0p : 0 < h0
  h1p : 0 ≤ h1
  lt : l0 * h1 < h0 * l1
  ap : 0 ≤ a
  bp : 0 ≤ b
  cp : 0 ≤ c
  dp : 0 ≤ d
  z1 : l0 ≤ Z
  z2 : l1 ≤ Z
  z3 : h0 ≤ Z
  z4 : h1 ≤ Z
  sA : a * (l0 + h0) + c * (l1 + h1) = A
  sB : b * (l0 + h0) + d * (l1 + h1) = B
theorem fl_ok {l0 l1 : Int} (h0 : 0 ≤ l0) (h1 : 0 < l1) : 0 ≤ l0 / l1 ∧ l0 / l1 * l1 ≤ l0 ∧ l0 < l0 / l1 * l1 + l1 ∧ l0 / l1 ≤ l0 := by
  have e := Int.mul_ediv_add_emod l0 l1
  have m0 := Int.emod_nonneg l0 (Int.ne_of_gt h1)
  have m1 := Int.emod_lt_of_pos l0 h1
  have w0 : 0 ≤ l0 / l1 := Int.ediv_nonneg h0 (Int.le_of_lt h1)
  rw [Int.mul_comm] at e
  refine ⟨w0, by omega, by omega, ?_⟩
  have : l0 / l1 * 1 ≤ l0 / l1 * l1 := Int.mul_le_mul_of_nonneg_left (by omega) w0
  omega
theorem mul0 {a b : Int} (ha : 0 ≤ a) (hb : 0 ≤ b) : 0 ≤ a * b := Int.mul_nonneg ha hb
section
variable {Z A B l0 l1 h0 h1 a b c d : Int}
theorem SI.low (s : SI Z A B l0 l1 h0 h1 a b c d) : 0 < h0 - l0 / l1 * h1 := by
  obtain ⟨w0, w1, w2, w3⟩ := fl_ok s.l0p s.l1p
  have e1 : l0 / l1 * l1 * h1 ≤ l0 * h1 := Int.mul_le_mul_of_nonneg_right w1 s.h1p
  have e2 : l0 / l1 * l1 * h1 = l0 / l1 * h1 * l1 := by grind
  have e3 : l0 / l1 * h1 * l1 < h0 * l1 := by have := s.lt; omega
  have := Int.lt_of_mul_lt_mul_right e3 (Int.le_of_lt s.l1p)
  omega
theorem SI.step (s : SI Z A B l0 l1 h0 h1 a b c d) (hc : h0 ≤ (l0 / l1 + 1) * h1) :
    SI Z A B h1 (h0 - l0 / l1 * h1) l1 (l0 - l0 / l1 * l1) (l0 / l1 * a + c) (l0 / l1 * b + d) a b ∧ (h0 - l0 / l1 * h1) + (l0 - l0 / l1 * l1) < l1 + h1 := by
  have p1 := s.low
  obtain ⟨w0, w1, w2, w3⟩ := fl_ok s.l0p s.l1p
  have lt := s.lt
  have sA := s.sA
  have sB := s.sB
  have q1 := mul0 w0 s.h1p
  have q2 := mul0 w0 (Int.le_of_lt s.l1p)
  have q3 := mul0 w0 s.ap
  have q4 := mul0 w0 s.bp
  have z1 := s.z1
  have z2 := s.z2
  have z3 := s.z3
  have z4 := s.z4
  have cp := s.cp
  have dp := s.dp
  have hc' : h0 ≤ l0 / l1 * h1 + h1 := by rw [Int.add_mul, Int.one_mul] at hc; exact hc
  generalize l0 / l1 = w at *
  refine ⟨⟨s.h1p, p1, s.l1p, by omega, ?_, by omega, by omega, s.ap, s.bp, s.z4, by omega, s.z2, by omega, ?_, ?_⟩, by omega⟩
  · have e1 : h1 * (l0 - w * l1) = l0 * h1 - w * l1 * h1 := by grind
    have e2 : l1 * (h0 - w * h1) = h0 * l1 - w * l1 * h1 := by grind
    rw [e1, e2]
    omega
  · rw [← sA]; grind
  · rw [← sB]; grind
theorem Bt.step {y1 y2 : Int} (s : SI Z A B l0 l1 h0 h1 a b c d) (h : Bt h1 (h0 - l0 / l1 * h1) l1 (l0 - l0 / l1 * l1) y1 y2) : Bt l0 l1 h0 h1 (l0 / l1 * y1 + y2) y1 := by
  obtain ⟨y2p, g, i1, i2⟩ := h
  have p1 := s.low
  have y1p : 0 < y1 := by
    have : 0 < y1 * (h0 - l0 / l1 * h1) := Int.lt_of_le_of_lt (mul0 s.h1p (Int.le_of_lt y2p)) i1
    exact Int.pos_of_mul_pos_left this p1
  refine ⟨y1p, ?_, ?_, ?_⟩
  · rw [Int.gcd_comm] at g
    rw [Int.gcd_mul_right_add_left, g]
  · have e : (l0 / l1 * y1 + y2) * l1 = l0 / l1 * l1 * y1 + l1 * y2 := by grind
    have e2 : y1 * (l0 - l0 / l1 * l1) = l0 * y1 - l0 / l1 * l1 * y1 := by grind
    rw [e2] at i2
    rw [e]
    omega
  · have e : (l0 / l1 * y1 + y2) * h1 = l0 / l1 * h1 * y1 + h1 * y2 := by grind
    have e2 : y1 * (h0 - l0 / l1 * h1) = h0 * y1 - l0 / l1 * h1 * y1 := by grind
    rw [e2] at i1
    rw [e]
    omega
end
theorem simF_ok : ∀ (k : Nat) {Z A B l0 l1 h0 h1 a b c d : Int}, SI Z A B l0 l1 h0 h1 a b c d → (l1 + h1).toNat < k →
    (∃ y1 y2, Bt l0 l1 h0 h1 y1 y2 ∧ simF k l0 l1 h0 h1 a b c d = (a * y1 + c * y2, b * y1 + d * y2)) ∧ (simF k l0 l1 h0 h1 a b c d).2 ≤ B
  | 0, _, _, _, _, _, _, _, _, _, _, _, _, hk => absurd hk (Nat.not_lt_zero _)
  | k + 1, Z, A, B, l0, l1, h0, h1, a, b, c, d, s, hk => by
    have l1p := s.l1p
    have h1p := s.h1p
    unfold simF
    by_cases hc : h0 ≤ (l0 / l1 + 1) * h1
    · rw [if_pos hc]
      obtain ⟨s', m⟩ := s.step hc
      have p1 := s.low
      have p2 := s'.h1p
      obtain ⟨⟨y1, y2, hb, e⟩, hB⟩ := simF_ok k s' (by omega)
      refine ⟨⟨_, _, Bt.step s hb, ?_⟩, hB⟩
      rw [e]
      generalize l0 / l1 = w
      exact Prod.ext (by show (w * a + c) * y1 + a * y2 = a * (w * y1 + y2) + c * y1; grind) (by show (w * b + d) * y1 + b * y2 = b * (w * y1 + y2) + d * y1; grind)
    · rw [if_neg hc]
      obtain ⟨w0, w1, w2, w3⟩ := fl_ok s.l0p s.l1p
      refine ⟨⟨l0 / l1 + 1, 1, ⟨by decide, by rw [Int.gcd_one_right], ?_, by omega⟩, Prod.ext (by show (l0 / l1 + 1) * a + c = a * (l0 / l1 + 1) + c * 1; grind) (by show (l0 / l1 + 1) * b + d = b * (l0 / l1 + 1) + d * 1; grind)⟩, ?_⟩
      · rw [Int.add_mul, Int.one_mul]
        omega
      · show (l0 / l1 + 1) * b + d ≤ B
        rw [← s.sB, Int.mul_add, Int.mul_add, Int.add_mul, Int.one_mul]
        have e1 : l0 / l1 * b ≤ l0 * b := Int.mul_le_mul_of_nonneg_right w3 s.bp
        have e2 : b * 1 ≤ b * h0 := Int.mul_le_mul_of_nonneg_left (by have := s.h0p; omega) s.bp
        have e3 : d * 1 ≤ d * l1 := Int.mul_le_mul_of_nonneg_left (by omega) s.dp
        have e4 := mul0 s.dp s.h1p
        have e5 : l0 * b = b * l0 := Int.mul_comm ..
        omega
noncomputable def simP (l h : Rat) : Int × Int := simF ((l.den : Int) + (h.den : Int) + 1).toNat l.num (l.den : Int) h.num (h.den : Int) 1 0 0 1
noncomputable def simR (l h : Rat) : Rat := rq (simP l h).1 (simP l h).2
theorem sim_si {l h : Rat} (l0 : 0 ≤ l) (hlt : l < h) {Z : Int} (z1 : l.num ≤ Z) (z2 : (l.den : Int) ≤ Z) (z3 : h.num ≤ Z) (z4 : (h.den : Int) ≤ Z) :
    SI Z (l.num + h.num) ((l.den : Int) + (h.den : Int)) l.num (l.den : Int) h.num (h.den : Int) 1 0 0 1 := by
  have lp := rden l
  have hp := rden h
  have ln : 0 ≤ l.num := (r_nonneg l).mpr l0
  have lt := (r_under l h).mpr hlt
  have hn : 0 < h.num := by
    have : 0 ≤ l.num * (h.den : Int) := mul0 ln (Int.le_of_lt hp)
    have : 0 < h.num * (l.den : Int) := by omega
    exact Int.pos_of_mul_pos_left this lp
  exact ⟨ln, lp, hn, Int.le_of_lt hp, lt, by decide, by decide, by decide, by decide, z1, z2, z3, z4, by omega, by omega⟩
theorem rq_low {n d : Int} (hd : 0 < d) (g : Int.gcd n d = 1) : (rq n d).num = n ∧ ((rq n d).den : Int) = d := by
  have hq : (d : Rat) ≠ 0 := by intro e; have : d = 0 := by exact_mod_cast e
                                omega
  have e : rq n d * (d : Rat) = (n : Rat) := by unfold rq; grind
  obtain ⟨f1, f2⟩ := fr_rat (Int.ne_of_gt hd) e
  unfold frT at f1
  unfold frB at f2
  rw [frD_pos hd, g] at f1 f2
  refine ⟨f1.symm.trans ?_, f2.symm.trans ?_⟩
  · exact Int.fdiv_one n
  · exact Int.fdiv_one d
theorem sim_ok {l h : Rat} (l0 : 0 ≤ l) (hlt : l < h) : (simR l h).num = (simP l h).1 ∧ ((simR l h).den : Int) = (simP l h).2 ∧ l < simR l h ∧ simR l h < h ∧ ((simR l h).den : Int) ≤ (l.den : Int) + (h.den : Int) := by
  have s := sim_si l0 hlt (Z := max (max l.num (l.den : Int)) (max h.num (h.den : Int))) (by omega) (by omega) (by omega) (by omega)
  have lp := rden l
  have hp := rden h
  obtain ⟨⟨y1, y2, ⟨b1, b2, b3, b4⟩, e⟩, hB⟩ := simF_ok ((l.den : Int) + (h.den : Int) + 1).toNat s (by omega)
  have e1 : simP l h = (y1, y2) := by
    unfold simP
    rw [e]
    exact Prod.ext (by show 1 * y1 + 0 * y2 = y1; omega) (by show 0 * y1 + 1 * y2 = y2; omega)
  have hB' : (simP l h).2 ≤ (l.den : Int) + (h.den : Int) := hB
  obtain ⟨f1, f2⟩ := rq_low b1 b2
  have er : simR l h = rq y1 y2 := by unfold simR; rw [e1]
  rw [e1] at hB' ⊢
  refine ⟨by rw [er]; exact f1, by rw [er]; exact f2, ?_, ?_, by rw [er, f2]; exact hB'⟩
  · refine (r_under _ _).mp ?_
    rw [er, f1, f2]
    exact b3
  · refine (r_under _ _).mp ?_
    rw [er, f1, f2]
    exact b4
noncomputable def rch (p f : Rat) (h : Nat) : Rat := p + (f - p) / (2 : Rat) ^ h
noncomputable def besR (p f : Rat) (h : Nat) : Rat := if p < rch p f h then simR p (rch p f h) else simR (rch p f h) p
theorem two_pow (h : Nat) : (0 : Rat) < (2 : Rat) ^ h ∧ (1 : Rat) ≤ (2 : Rat) ^ h := by
  induction h with
  | zero => rw [Rat.pow_zero]; exact ⟨by decide, by decide⟩
  | succ h ih => rw [Rat.pow_succ]; grind
theorem rch_in {p f : Rat} (h : Nat) : (p < f → p < rch p f h ∧ rch p f h ≤ f) ∧ (f < p → f ≤ rch p f h ∧ rch p f h < p) := by
  obtain ⟨t0, t1⟩ := two_pow h
  unfold rch
  have e : (f - p) / (2 : Rat) ^ h * (2 : Rat) ^ h = f - p := by grind
  generalize (f - p) / (2 : Rat) ^ h = x at *
  constructor
  · intro c
    have xp : 0 < x := by
      have : 0 < (2 : Rat) ^ h * x := by grind
      exact pos_of t0 this
    have : x * 1 ≤ x * (2 : Rat) ^ h := Rat.mul_le_mul_of_nonneg_left t1 (by grind)
    grind
  · intro c
    have xp : 0 < -x := by
      have : 0 < (2 : Rat) ^ h * -x := by grind
      exact pos_of t0 this
    have : (-x) * 1 ≤ (-x) * (2 : Rat) ^ h := Rat.mul_le_mul_of_nonneg_left t1 (by grind)
    grind
theorem bes_in {p f : Rat} (p0 : 0 ≤ p) (f0 : 0 ≤ f) (h : Nat) : (p < f → p < besR p f h ∧ besR p f h < rch p f h) ∧ (f < p → rch p f h < besR p f h ∧ besR p f h < p) := by
  obtain ⟨i1, i2⟩ := rch_in (p := p) (f := f) h
  unfold besR
  constructor
  · intro c
    rw [if_pos (i1 c).1]
    have := sim_ok p0 (i1 c).1
    exact ⟨this.2.2.1, this.2.2.2.1⟩
  · intro c
    have j := i2 c
    rw [if_neg (by grind)]
    have := sim_ok (show 0 ≤ rch p f h by grind) j.2
    exact ⟨this.2.2.1, this.2.2.2.1⟩
theorem bes_den {p f : Rat} (p0 : 0 ≤ p) (f0 : 0 ≤ f) (hpf : p ≠ f) (h : Nat) : ((besR p f h).den : Int) ≤ (p.den : Int) + ((rch p f h).den : Int) := by
  obtain ⟨i1, i2⟩ := rch_in (p := p) (f := f) h
  unfold besR
  by_cases c : p < f
  · rw [if_pos (i1 c).1]
    exact (sim_ok p0 (i1 c).1).2.2.2.2
  · have c' : f < p := by grind
    have j := i2 c'
    rw [if_neg (by grind)]
    have := (sim_ok (show 0 ≤ rch p f h by grind) j.2).2.2.2.2
    omega
end Gc
set_option maxHeartbeats 4000000
namespace L2
open PySem PySem.Spec PyProof.Rows PySem.W Gc
end L2
namespace L2
open PySem PySem.Spec PyProof.Rows PySem.W Gc
end L2
set_option maxHeartbeats 4000000
namespace L2
open PySem PySem.Spec PyProof.Rows PySem.W Gc
section
variable {prog : Program} {w : World} {A : Around} {E : Value → Shared → Prop} {s : Shared}
end
section
variable {X : Cx} {a b c d : Expr} {ta tb tc td : TE} {pos : Pos}
end
end L2
set_option maxHeartbeats 4000000
namespace L2
open PySem PySem.Spec PyProof.Rows PySem.W Gc
section
variable {X : Cx}
end
end L2
set_option maxHeartbeats 4000000
namespace L2
open PySem PySem.Spec PyProof.Rows PySem.W Gc
section
end
section
variable {prog : Program} {w : World} {A : Around} {E : Value → Shared → Prop} {s : Shared}
end
section
variable {prog : Program} {w : World} {A : Around} {E : Value → Shared → Prop} {s : Shared}
end
end L2
set_option maxHeartbeats 4000000
namespace L2
open PySem PySem.Spec PyProof.Rows
section
variable {M : Model} {A : Around} {E : Value → Shared → Prop} {s : Shared} {B : Heap} {l : List Env} {e L : Addr} {cls a0 : Value}
end
section
variable {X : Cx} {E : XK} {N' : List Str} {scope : Scope} {cl : List (Str × Addr)} {pins0 : List (Addr × Obj)} {σ0 : St} {H3 : Hp} {s3 : Shared} {fp : List Addr} {Q : Value → Shared → Prop} {acc : Value}
end
section
variable {X : Cx} {E : XK} {elt iter tg : Expr} {ifs : List Expr} {xs : List Str} {pos : Pos} {scope : Scope} {cl : List (Str × Addr)} {ts : List (Str × Nat)} {wi : TI} {te : TE} {g : TG} {tt : TT}
end
section
open PySem.W
variable {X : Cx}
end
noncomputable abbrev SeqAt2 (H : Hp) (a : Addr) (xs : List V) : Prop := H a = some (.lst xs) ∨ H a = some (.tup xs)
theorem SeqAt2.keep {H H' : Hp} {a : Addr} {xs : List V} (h : SeqAt2 H a xs) (s : Same H H') : SeqAt2 H' a xs := h.imp (s _ _) (s _ _)
end L2
set_option maxHeartbeats 4000000
namespace K20
open PySem L2 Gc Ch
seal wpAny
noncomputable def top (i : Nat) : Stmt := PySem.Challenge.pw_surestretch_k20_sure_or_not.main.body.getD i (.Pass ⟨0, 0, 0, 0⟩)
noncomputable abbrev s_whole : Stmt := top 5
noncomputable abbrev s_share : Stmt := top 6
noncomputable abbrev s_wpair : Stmt := top 7
noncomputable abbrev s_cd : Stmt := top 8
noncomputable abbrev s_frac : Stmt := top 9
noncomputable abbrev s_plus : Stmt := top 10
noncomputable abbrev s_minus : Stmt := top 11
noncomputable abbrev s_und : Stmt := top 12
noncomputable abbrev s_cho : Stmt := top 14
noncomputable abbrev s_pow : Stmt := top 16
noncomputable abbrev s_wtop : Stmt := top 17
noncomputable abbrev s_rsum : Stmt := top 18
noncomputable abbrev s_ruleof : Stmt := top 20
noncomputable abbrev s_rowof : Stmt := top 21
noncomputable abbrev s_stof : Stmt := top 22
noncomputable abbrev s_held : Stmt := top 23
noncomputable abbrev s_rov : Stmt := top 24
noncomputable abbrev s_cov : Stmt := top 25
noncomputable abbrev s_sor : Stmt := top 26
noncomputable abbrev s_edges : Stmt := top 27
noncomputable abbrev s_pieces : Stmt := top 28
noncomputable abbrev s_least : Stmt := top 30
noncomputable abbrev s_lpl : Stmt := top 31
noncomputable abbrev s_sure : Stmt := top 32
noncomputable abbrev s_lack : Stmt := top 33
noncomputable abbrev s_lks : Stmt := top 34
noncomputable abbrev s_shb : Stmt := top 35
noncomputable abbrev s_sim : Stmt := top 36
noncomputable abbrev s_wterm : Stmt := top 37
noncomputable abbrev s_cell : Stmt := top 39
noncomputable abbrev s_stream : Stmt := top 40
noncomputable abbrev s_dv : Stmt := top 41
noncomputable abbrev s_low : Stmt := top 42
noncomputable abbrev s_nm : Stmt := top 43
noncomputable abbrev s_ord : Stmt := top 44
noncomputable abbrev s_str : Stmt := top 45
noncomputable abbrev s_pows : Stmt := top 46
noncomputable abbrev s_chs : Stmt := top 47
noncomputable abbrev s_cvr : Stmt := top 48
noncomputable abbrev s_isf : Stmt := top 49
noncomputable abbrev s_shs : Stmt := top 50
noncomputable abbrev s_right : Stmt := top 51
noncomputable abbrev s_law : Stmt := top 52
structure Txt (mg : Str → Option Value) : Prop where
  range : mg "range" = none
  min : mg "min" = none
  max : mg "max" = none
  len : mg "len" = none
  isinstance : mg "isinstance" = none
  int : mg "int" = none
  bool : mg "bool" = none
  tuple : mg "tuple" = none
  abs : mg "abs" = none
  all : mg "all" = none
  zip : mg "zip" = none
  sum : mg "sum" = none
  list : mg "list" = none
  str : mg "str" = none
structure CA where
  StretchError : Addr
  NoNumber : Addr
structure CF (K : PySem.W.Frag) (mg : Str → Option Value) (C : CA) : Prop where
  mStretchError : mg "StretchError" = some (.ref C.StretchError)
  mNoNumber : mg "NoNumber" = some (.ref C.NoNumber)
  xNoNumber : XCls K mg "NoNumber" C.NoNumber
  iNoNumber : XInst K C.NoNumber
theorem passN {P : Program} {w : World} {X : Cx} : Passes (CXX P w) X E0 := fun _ _ _ _ _ _ _ h => (cxx_never h).elim
noncomputable def isW (t : Th) : Bool := isIntT t && !isBoolT t
theorem isW_shape {t : Th} (h : isW t = true) : ∃ i, t = .int i := by
  cases t <;> first | exact ⟨_, rfl⟩ | (simp [isW, isIntT, isBoolT] at h)
theorem at0 {x : V} {xs : List V} : atI (x :: xs) 0 = some x := atI_nat (xs := x :: xs) (j := 0) rfl
theorem at1 {x y : V} {xs : List V} : atI (x :: y :: xs) 1 = some y := atI_nat (xs := x :: y :: xs) (j := 1) rfl
theorem getD_mem {α : Type} {l : List α} {i : Nat} {d : α} (h : i < l.length) : l.getD i d ∈ l := by rw [getD_in h]; exact List.getElem_mem h
theorem den_p {H : Hp} {p : Addr} {a b : Int} (h : H p = some (.tup [.int a, .int b])) : Den H (.tup [.int a, .int b]) (.ref p) := ⟨p, _, rfl, h, _, _, rfl, rfl, _, _, rfl, rfl, rfl⟩
theorem den2 {H : Hp} {p : Addr} {x y : V} {a b : Th} (h : H p = some (.tup [x, y])) (d1 : Den H a x) (d2 : Den H b y) : Den H (.tup [a, b]) (.ref p) := ⟨p, _, rfl, h, _, _, rfl, d1, _, _, rfl, d2, rfl⟩
theorem _root_.Gc.Sz.smk {n : Nat} {i : Int} (h : Sz n i) (hn : n ≤ 8900) : Smk i := h.mono hn
section
variable {P : Program} {w : World} {K : PySem.W.Frag} {mg : Str → Option Value} {base : Heap}
noncomputable def spCho : Sp := fun vs H Q _ => ∃ n k : Int, vs = [.int n, .int k] ∧ n ≤ 100 ∧ Q (.int (cho n k)) H
theorem sc_cho : FnScope ["n", "k", "ways", "taken"] ["n", "k"] (defScope s_cho) := ⟨rfl, rfl, rfl, by decide +kernel, rfl, by decide +kernel, by decide +kernel⟩
theorem ok_cho {f : Addr} {fd : FuncData} (F : Fun K "choices" "choices" s_cho f fd) (T : Txt mg) : FnOk P w K mg base CX0 1 f fd ["n", "k"] spCho := by
  refine F.ok sc_cho (fun vs H Q E h => ?_) (fun cdv A outer s H vs Q E hr h => ?_)
  · obtain ⟨n, k, rfl, _⟩ := h
    rfl
  obtain ⟨n, k, rfl, hn, q⟩ := h
  refine ⟨_, (pss_cons (ps_if (PW.pt (pw_or (pt_cmpR op_lt (pv 1) pe_int (nomark _)) (pw_or1 (pt_cmpR op_gt (pv 1) (pv 0) (nomark _))))) (pss_one (ps_ret pe_int)) pss_nil)
    (pss_cons (ps_set (i := 2) sc_cho.nd rfl (Or.inl rfl) pe_int)
    (pss_cons (ps_for PassesOwn.never rfl (pi_range1 rfl T.range (pa_cons (pe_callB (call_min2 rfl) rfl T.min boot_min (pa_cons (pv 1) (pa_cons (pe_op op_sub (pv 0) (pv 1)) pa_nil))) pa_nil)) (pg_name (i := 3) sc_cho.nd rfl (Or.inl rfl)) (pss_one (ps_set (i := 2) sc_cho.nd rfl (Or.inl rfl) (pe_op op_fdiv (pe_op op_mul (pv 2) (pe_op op_sub (pv 0) (pv 3))) (pe_op op_add (pv 3) pe_int)))))
    (pss_one (ps_ret (pv 2)))))), ?_⟩
  refine ⟨_, rfl, _, _, rfl, rfl, _, rfl, ?_⟩
  refine ite2 (fun c => ?_) (fun c => ?_)
  · have c' : k < 0 := of_decide_eq_true c
    refine iteT ?_
    show Q (.int 0) H
    rw [cho_out (.inl c')] at q
    exact q
  have c' : ¬ k < 0 := ofD c
  refine ⟨_, rfl, _, rfl, _, _, rfl, rfl, _, rfl, ?_⟩
  refine ite2 (fun d => ?_) (fun d => ?_)
  · have d' : n < k := of_decide_eq_true d
    show Q (.int 0) H
    rw [cho_out (.inr d')] at q
    exact q
  have d' : ¬ n < k := ofD d
  refine ⟨_, rfl, _, rfl, _, rfl, _, _, rfl, rfl, _, _, rfl, ?_⟩
  refine ⟨_, rfl, ?_, ?_, ?_⟩
  · split <;> omega
  · split <;> omega
  refine for_range (lo := 0) (fun i σ H' => H' = H ∧ ∃ v, σ = [some (.int n), some (.int k), some (.int (binom n.toNat i : Int)), v]) ⟨rfl, none, ?_⟩ ?_ ?_
  · rw [b0] <;> rfl
  · rintro i σ H' hi ⟨rfl, v, rfl⟩
    have hi2 : (i : Int) < n := by
      by_cases z : n - k < k
      · rw [if_pos z] at hi; omega
      · rw [if_neg z] at hi; omega
    have e : (binom n.toNat i : Int) * (n - (0 + (i : Int))) / (0 + (i : Int) + 1) = (binom n.toNat (i + 1) : Int) := by
      rw [Int.zero_add]; exact cho_turn hi2
    refine ⟨_, rfl, _, rfl, _, rfl, _, _, rfl, rfl, _, _, rfl, rfl, .inr ⟨?_, ?_⟩, _, rfl, _, _, rfl, rfl, _, _, rfl, rfl, ⟨?_, ?_⟩, rfl, some (.int (0 + (i : Int))), ?_⟩
    · omega
    · omega
    · omega
    · omega
    rw [← e] <;> rfl
  · rintro σ H' ⟨rfl, v, rfl⟩
    refine ⟨_, rfl, ?_⟩
    rw [← cho_min (by omega) (by omega)] at q
    exact q
noncomputable def spWhole : Sp := fun vs H Q _ => ∃ x t, vs = [x] ∧ Den H t x ∧ Q (.bl (isW t)) H
theorem sc_whole : FnScope ["thing"] ["thing"] (defScope s_whole) := ⟨rfl, rfl, rfl, by decide +kernel, rfl, by decide +kernel, by decide +kernel⟩
theorem ok_whole {f : Addr} {fd : FuncData} (F : Fun K "is_whole" "is_whole" s_whole f fd) (T : Txt mg) : FnOk P w K mg base CX0 1 f fd ["thing"] spWhole := by
  refine F.ok sc_whole (fun vs H Q E h => ?_) (fun cdv A outer s H vs Q E hr h => ?_)
  · obtain ⟨x, t, rfl, _⟩ := h
    rfl
  obtain ⟨x, t, rfl, d, q⟩ := h
  refine ⟨_, (pss_one (ps_ret (pe_and (pe_callB call_isinstD rfl T.isinstance boot_isinstance (pa_cons (pv 0) (pa_cons (pe_bltn (v := .ty "int") rfl T.int boot_int rfl) pa_nil))) (pe_one (pe_not (pe_callB call_isinstD rfl T.isinstance boot_isinstance (pa_cons (pv 0) (pa_cons (pe_bltn (v := .ty "bool") rfl T.bool boot_bool rfl) pa_nil)))))))), ?_⟩
  refine ⟨_, rfl, x, t, _, _, rfl, d, kit_int t, _, rfl, ?_⟩
  cases hi : isIntT t with
  | false =>
    unfold isW at q
    rw [hi, Bool.false_and] at q
    exact iteF q
  | true =>
    unfold isW at q
    rw [hi, Bool.true_and] at q
    exact iteT ⟨_, rfl, x, t, _, _, rfl, d, kit_bool t, _, rfl, q⟩
noncomputable def spCd : Sp := fun vs H Q _ => ∃ a b : Int, vs = [.int a, .int b] ∧ 0 ≤ a ∧ 0 ≤ b ∧ Q (.int (Int.gcd a b)) H
noncomputable def mu2 (σ : St) : Nat := match σ with
  | _ :: some (.int y) :: _ => y.toNat
  | _ => 0
theorem sc_cd : FnScope ["one", "other", "rest"] ["one", "other"] (defScope s_cd) := ⟨rfl, rfl, rfl, by decide +kernel, rfl, by decide +kernel, by decide +kernel⟩
theorem ok_cd {f : Addr} {fd : FuncData} (F : Fun K "common_divisor" "common_divisor" s_cd f fd) (T : Txt mg) : FnOk P w K mg base CX0 1 f fd ["one", "other"] spCd := by
  refine F.ok sc_cd (fun vs H Q E h => ?_) (fun cdv A outer s H vs Q E hr h => ?_)
  · obtain ⟨a, b, rfl, _⟩ := h
    rfl
  obtain ⟨a, b, rfl, ha, hb, q⟩ := h
  refine ⟨_, (pss_cons (ps_while PassesOwn.never (pt_cmpR op_ne (pv 1) pe_int (nomark _)) (pss_cons (ps_set (i := 2) sc_cd.nd rfl (Or.inl rfl) (pe_op op_mod (pv 0) (pv 1)))
      (pss_cons (ps_set (i := 0) sc_cd.nd rfl (Or.inl rfl) (pv 1))
      (pss_one (ps_set (i := 1) sc_cd.nd rfl (Or.inl rfl) (pv 2))))))
    (pss_one (ps_ret (pv 0)))), ?_⟩
  refine while_by (fun σ H' => H' = H ∧ ∃ x y v, σ = [some (.int x), some (.int y), v] ∧ 0 ≤ x ∧ 0 ≤ y ∧ Int.gcd x y = Int.gcd a b) (fun σ _ => mu2 σ) ⟨rfl, a, b, none, rfl, ha, hb, rfl⟩ ?_ ?_
  · rintro σ H' ⟨rfl, x, y, v, rfl, hx, hy, g⟩
    refine ⟨_, rfl, rfl, _, rfl, ?_⟩
    refine ite2 (fun c => ?_) (fun c => ?_)
    · have c' : y ≠ 0 := by rintro rfl; exact absurd c (by decide)
      have hm := Int.emod_nonneg x c'
      have hl := Int.emod_lt_of_pos x (show 0 < y by omega)
      refine ⟨_, rfl, _, rfl, _, _, rfl, rfl, (by show 0 < y; omega), _, rfl, _, rfl, ?_⟩
      refine ⟨⟨rfl, y, x % y, some (.int (x % y)), rfl, hy, hm, by rw [gstep hx hy c']; exact g⟩, ?_⟩
      show (x % y).toNat < y.toNat
      omega
    · have c' : y = 0 := by
        by_cases z : y = 0
        · exact z
        · exact absurd (show (!decide (V.int y = V.int 0)) = true by rw [decide_eq_false (fun w => z (by injection w))]; rfl) c
      subst c'
      refine ⟨_, rfl, ?_⟩
      rw [← g, gend hx] at q
      exact q
  · intro σ H Q Q' hq h
    obtain ⟨v, e, h1, k, e2, h2⟩ := h
    exact ⟨v, e, h1, k, e2, hq _ _ h2⟩
theorem sc_dv : FnScope ["_law_one", "_law_other", "_law_rest"] ["_law_one", "_law_other"] (defScope s_dv) := ⟨rfl, rfl, rfl, by decide +kernel, rfl, by decide +kernel, by decide +kernel⟩
theorem ok_dv {f : Addr} {fd : FuncData} (F : Fun K "_law_divisor" "_law_divisor" s_dv f fd) (T : Txt mg) : FnOk P w K mg base CX0 1 f fd ["_law_one", "_law_other"] spCd := by
  refine F.ok sc_dv (fun vs H Q E h => ?_) (fun cdv A outer s H vs Q E hr h => ?_)
  · obtain ⟨a, b, rfl, _⟩ := h
    rfl
  obtain ⟨a, b, rfl, ha, hb, q⟩ := h
  refine ⟨_, (pss_cons (ps_while PassesOwn.never (pt_cmpR op_ne (pv 1) pe_int (nomark _)) (pss_cons (ps_set (i := 2) sc_dv.nd rfl (Or.inl rfl) (pe_op op_mod (pv 0) (pv 1)))
      (pss_cons (ps_set (i := 0) sc_dv.nd rfl (Or.inl rfl) (pv 1))
      (pss_one (ps_set (i := 1) sc_dv.nd rfl (Or.inl rfl) (pv 2))))))
    (pss_one (ps_ret (pv 0)))), ?_⟩
  refine while_by (fun σ H' => H' = H ∧ ∃ x y v, σ = [some (.int x), some (.int y), v] ∧ 0 ≤ x ∧ 0 ≤ y ∧ Int.gcd x y = Int.gcd a b) (fun σ _ => mu2 σ) ⟨rfl, a, b, none, rfl, ha, hb, rfl⟩ ?_ ?_
  · rintro σ H' ⟨rfl, x, y, v, rfl, hx, hy, g⟩
    refine ⟨_, rfl, rfl, _, rfl, ?_⟩
    refine ite2 (fun c => ?_) (fun c => ?_)
    · have c' : y ≠ 0 := by rintro rfl; exact absurd c (by decide)
      have hm := Int.emod_nonneg x c'
      have hl := Int.emod_lt_of_pos x (show 0 < y by omega)
      refine ⟨_, rfl, _, rfl, _, _, rfl, rfl, (by show 0 < y; omega), _, rfl, _, rfl, ?_⟩
      refine ⟨⟨rfl, y, x % y, some (.int (x % y)), rfl, hy, hm, by rw [gstep hx hy c']; exact g⟩, ?_⟩
      show (x % y).toNat < y.toNat
      omega
    · have c' : y = 0 := by
        by_cases z : y = 0
        · exact z
        · exact absurd (show (!decide (V.int y = V.int 0)) = true by rw [decide_eq_false (fun w => z (by injection w))]; rfl) c
      subst c'
      refine ⟨_, rfl, ?_⟩
      rw [← g, gend hx] at q
      exact q
  · intro σ H Q Q' hq h
    obtain ⟨v, e, h1, k, e2, h2⟩ := h
    exact ⟨v, e, h1, k, e2, hq _ _ h2⟩
noncomputable def spCell (K : PySem.W.Frag) : Sp := fun vs H Q _ => ∃ (a : Addr) (ns : List Int) (k : Int), vs = [.ref a, .int k] ∧ SqL K H a (ns.map V.int) ∧ 0 ≤ k ∧ Q (.int (ns.getD k.toNat 0)) H
theorem sc_cell : FnScope ["_law_script", "_law_k"] ["_law_script", "_law_k"] (defScope s_cell) := ⟨rfl, rfl, rfl, by decide +kernel, rfl, by decide +kernel, by decide +kernel⟩
theorem ok_cell {f : Addr} {fd : FuncData} (F : Fun K "_law_cell_at" "_law_cell_at" s_cell f fd) (T : Txt mg) : FnOk P w K mg base CX0 1 f fd ["_law_script", "_law_k"] (spCell K) := by
  refine F.ok sc_cell (fun vs H Q E h => ?_) (fun cdv A outer s H vs Q E hr h => ?_)
  · obtain ⟨a, ns, k, rfl, _⟩ := h
    rfl
  obtain ⟨a, ns, k, rfl, hS, h0, q⟩ := h
  refine ⟨_, (pss_cons (ps_if (pt_cmpR op_lt (pv 1) (pe_callB call_len_seq rfl T.len boot_len (pa_cons (pv 0) pa_nil)) (nomark _)) (pss_one (ps_ret (pe_ix ix_list (pv 0) (pv 1) (fun _ _ => rfl)))) pss_nil)
    (pss_one (ps_ret pe_int))), ?_⟩
  have hl : (ns.map V.int).length = ns.length := List.length_map _
  refine ⟨_, rfl, _, rfl, a, _, rfl, .inl hS, _, _, rfl, rfl, _, rfl, ?_⟩
  refine ite2 (fun c => ?_) (fun c => ?_)
  · have c' : k < (((ns.map V.int).length : Nat) : Int) := of_decide_eq_true c
    rw [hl] at c'
    exact ⟨_, rfl, _, rfl, a, _, k, _, rfl, rfl, hS, at_getD h0 c', q⟩
  · have c' := ofD c
    rw [hl] at c'
    rw [getD_out (by omega)] at q
    exact q
noncomputable def frOk : Th → Th → Option (Int × Int)
  | .int a, .int b => if b = 0 then none else some (a, b)
  | _, _ => none
theorem frOk_shape {tx ty : Th} {a b : Int} (h : frOk tx ty = some (a, b)) : tx = .int a ∧ ty = .int b ∧ b ≠ 0 := by
  unfold frOk at h
  split at h
  · split at h
    · cases h
    · rename_i hz; cases h; exact ⟨rfl, rfl, hz⟩
  · cases h
theorem frOk_no1 {tx ty : Th} (h : isW tx = false) : frOk tx ty = none := by
  cases tx <;> first | rfl | cases h
theorem frOk_no2 {tx ty : Th} (h : isW ty = false) : frOk tx ty = none := by
  cases tx <;> cases ty <;> first | rfl | cases h
theorem frOk_yes {a b : Int} (h : b ≠ 0) : frOk (.int a) (.int b) = some (a, b) := if_neg h
noncomputable def spFrac (C : CA) : Sp := fun vs H Q E => ∃ x y tx ty, vs = [x, y] ∧ Den H tx x ∧ Den H ty y ∧
  (∀ a b, frOk tx ty = some (a, b) → Smk b ∧ ∀ p, H p = none → Q (.ref p) (upd H p (.tup [.int (frT a b), .int (frB a b)]))) ∧ (frOk tx ty = none → E (.ref C.NoNumber) none H)
theorem smk_frD {a b : Int} (h : b ≠ 0) (sb : Smk b) : Smk (frD a b) := by
  have h1 : (frD a b).natAbs = Int.gcd a b := by unfold frD; split <;> omega
  have h2 : Int.gcd a b ≤ b.natAbs := Nat.le_of_dvd (by omega) (Nat.gcd_dvd_right ..)
  exact Nat.lt_of_le_of_lt (by rw [h1]; exact h2) sb
theorem gcd_abs (a b : Int) : (Int.gcd (if a < 0 then -a else a) (if b < 0 then -b else b) : Int) = Int.gcd a b := by rw [gabs]
theorem sc_frac : FnScope ["top", "bottom", "divisor"] ["top", "bottom"] (defScope s_frac) := ⟨rfl, rfl, rfl, by decide +kernel, rfl, by decide +kernel, by decide +kernel⟩
theorem ok_frac {C : CA} {f : Addr} {fd : FuncData} (F : Fun K "fraction" "fraction" s_frac f fd) (T : Txt mg) (cf : CF K mg C) {fwhole : Addr} {dwhole : FuncData} (Gwhole : FnOk P w K mg base CX0 2 fwhole dwhole ["thing"] spWhole) (bwhole : Binds K dwhole ["thing"] []) (kwhole : PySem.W.keepIn K (.ref fwhole) = true) (mwhole : mg "is_whole" = some (.ref fwhole)) {fcd : Addr} {dcd : FuncData} (Gcd : FnOk P w K mg base CX0 2 fcd dcd ["one", "other"] spCd) (bcd : Binds K dcd ["one", "other"] []) (kcd : PySem.W.keepIn K (.ref fcd) = true) (mcd : mg "common_divisor" = some (.ref fcd)) : FnOk P w K mg base (CXX P w) 3 f fd ["top", "bottom"] (spFrac C) := by
  refine F.okX sc_frac (fun vs H Q E h => ?_) (fun cdv A outer s H vs Q E hr h => ?_)
  · obtain ⟨x, y, tx, ty, rfl, _⟩ := h
    rfl
  obtain ⟨x, y, tx, ty, rfl, d1, d2, q1, q2⟩ := h
  refine ⟨_, (pss_cons (ps_if (PW.pt (pw_or (pt_not (pt_val (pe_call Gwhole hr rfl mwhole kwhole bwhole .nil pass0 (pa_cons (pv 0) pa_nil)))) (pw_or1 (pt_not (pt_val (pe_call Gwhole hr rfl mwhole kwhole bwhole .nil pass0 (pa_cons (pv 1) pa_nil))))))) (pss_one (ps_raise reachOf rfl cf.xNoNumber rfl (pa_cons pe_str pa_nil))) pss_nil)
    (pss_cons (ps_if (pt_cmpR op_eq (pv 1) pe_int (nomark _)) (pss_one (ps_raise reachOf rfl cf.xNoNumber rfl (pa_cons pe_str pa_nil))) pss_nil)
    (pss_cons (ps_set (i := 2) sc_frac.nd rfl (Or.inl rfl) (pe_call Gcd hr rfl mcd kcd bcd .nil pass0 (pa_cons (pe_callB call_abs rfl T.abs boot_abs (pa_cons (pv 0) pa_nil)) (pa_cons (pe_callB call_abs rfl T.abs boot_abs (pa_cons (pv 1) pa_nil)) pa_nil))))
    (pss_cons (ps_if (pt_cmpR op_lt (pv 1) pe_int (nomark _)) (pss_one (ps_set (i := 2) sc_frac.nd rfl (Or.inl rfl) (pe_un un_neg (pv 2)))) pss_nil)
    (pss_one (ps_ret (pe_tup (pa_cons (pe_op op_fdivK (pv 0) (pv 2)) (pa_cons (pe_op op_fdivK (pv 1) (pv 2)) pa_nil))))))))), ?_⟩
  refine ⟨_, rfl, x, tx, rfl, d1, _, rfl, ?_⟩
  cases hx : isW tx with
  | false => exact iteT (iteT ⟨(by show 1 ≤ sizeLine; decide), q2 (frOk_no1 hx)⟩)
  | true =>
    refine iteF ?_
    refine ⟨_, rfl, y, ty, rfl, d2, _, rfl, ?_⟩
    cases hy : isW ty with
    | false => exact iteT ⟨(by show 1 ≤ sizeLine; decide), q2 (frOk_no2 hy)⟩
    | true =>
      refine iteF ?_
      obtain ⟨a, rfl⟩ := isW_shape hx
      obtain ⟨b, rfl⟩ := isW_shape hy
      have d1' : x = V.int a := d1
      have d2' : y = V.int b := d2
      subst d1' d2'
      refine ⟨_, rfl, rfl, _, rfl, ?_⟩
      by_cases hb : b = 0
      · subst hb
        exact iteT ⟨(by show 1 ≤ sizeLine; decide), q2 rfl⟩
      refine ite2 (fun c => absurd (by have := of_decide_eq_true c; injection this) hb) (fun _ => ?_)
      obtain ⟨sb, q⟩ := q1 a b (frOk_yes hb)
      have sd := smk_frD (a := a) hb sb
      have nd := frD_ne (t := a) hb
      have ha : 0 ≤ (if a < 0 then -a else a) := by split <;> omega
      have hb' : 0 ≤ (if b < 0 then -b else b) := by split <;> omega
      refine ⟨_, rfl, _, rfl, _, rfl, _, rfl, _, _, rfl, ha, hb', ?_⟩
      rw [gcd_abs]
      refine ⟨_, rfl, _, _, rfl, rfl, _, rfl, ?_⟩
      refine ite2 (fun c => ?_) (fun c => ?_)
      · have c' : b < 0 := of_decide_eq_true c
        have e : frD a b = -(Int.gcd a b : Int) := if_pos c'
        rw [e] at sd nd
        refine ⟨_, rfl, _, rfl, ?_⟩
        refine ⟨_, rfl, _, rfl, _, _, rfl, rfl, ⟨nd, sd⟩, _, rfl, _, rfl, _, _, rfl, rfl, ⟨nd, sd⟩, (by show 2 ≤ sizeLine; decide), fun p hp => ?_⟩
        have z := q p hp
        unfold frT frB at z
        rw [e] at z
        exact z
      · have c' : ¬ b < 0 := ofD c
        have e : frD a b = (Int.gcd a b : Int) := if_neg c'
        rw [e] at sd nd
        refine ⟨_, rfl, _, rfl, _, _, rfl, rfl, ⟨nd, sd⟩, _, rfl, _, rfl, _, _, rfl, rfl, ⟨nd, sd⟩, (by show 2 ≤ sizeLine; decide), fun p hp => ?_⟩
        have z := q p hp
        unfold frT frB at z
        rw [e] at z
        exact z
noncomputable def NewFr (H : Hp) (r : Rat) (Q : VK) : Prop := ∀ a H', Same H H' → H' a = some (.tup [.int r.num, .int (r.den : Int)]) → Q (.ref a) H'
noncomputable def Told (H : Hp) (t b : Int) (Q : VK) : Prop := ∀ p, H p = none → Q (.ref p) (upd H p (.tup [.int (frT t b), .int (frB t b)]))
theorem frac_ready {C : CA} {H : Hp} {Q : VK} {E : XK} {t b : Int} (hb : b ≠ 0) (sb : Smk b) (q : Told H t b Q) : spFrac C [.int t, .int b] H Q E := by
  refine ⟨_, _, .int t, .int b, rfl, rfl, rfl, fun a b' e => ?_, fun e => ?_⟩
  · obtain ⟨e1, e2, _⟩ := frOk_shape e
    cases e1; cases e2
    exact ⟨sb, q⟩
  · rw [frOk_yes hb] at e; cases e
theorem told_new {H : Hp} {t b : Int} {r : Rat} {Q : VK} (e : frT t b = r.num ∧ frB t b = (r.den : Int)) (q : NewFr H r Q) : Told H t b Q := fun x hx => by
  refine q x _ (same_new hx _) ?_
  rw [upd_same, e.1, e.2]
structure FrA (H : Hp) (f : Addr) (r : Rat) : Prop where
  ob : H f = some (.tup [.int r.num, .int (r.den : Int)])
  st : Sz 4400 r.num
  sb : Sz 4400 (r.den : Int)
theorem FrA.keep {H H' : Hp} {f : Addr} {r : Rat} (h : FrA H f r) (s : Same H H') : FrA H' f r := ⟨s _ _ h.ob, h.st, h.sb⟩
noncomputable def spBinR (g : Rat → Rat → Rat) : Sp := fun vs H Q _ => ∃ f h r s, vs = [.ref f, .ref h] ∧ FrA H f r ∧ FrA H h s ∧ NewFr H (g r s) Q
noncomputable abbrev spPlus : Sp := spBinR fun r s => r + s
noncomputable abbrev spMinus : Sp := spBinR fun r s => r - s
theorem sc_plus : FnScope ["one", "other"] ["one", "other"] (defScope s_plus) := ⟨rfl, rfl, rfl, by decide +kernel, rfl, by decide +kernel, by decide +kernel⟩
theorem ok_plus {C : CA} {f : Addr} {fd : FuncData} (F : Fun K "plus" "plus" s_plus f fd) (T : Txt mg) {ffrac : Addr} {dfrac : FuncData} (Gfrac : FnOk P w K mg base (CXX P w) 3 ffrac dfrac ["top", "bottom"] (spFrac C)) (bfrac : Binds K dfrac ["top", "bottom"] []) (kfrac : PySem.W.keepIn K (.ref ffrac) = true) (mfrac : mg "fraction" = some (.ref ffrac)) : FnOk P w K mg base CX0 4 f fd ["one", "other"] spPlus := by
  refine F.ok sc_plus (fun vs H Q E h => ?_) (fun cdv A outer s H vs Q E hr h => ?_)
  · obtain ⟨f, g, r, s, rfl, _⟩ := h
    rfl
  obtain ⟨f, g, r, s, rfl, t, u, q⟩ := h
  refine ⟨_, (pss_one (ps_ret (pe_call Gfrac hr rfl mfrac kfrac bfrac .nil passN (pa_cons (pe_op op_add (pe_op op_mulK (pe_ix ix_tup (pv 0) pe_int (fun _ _ => rfl)) (pe_ix ix_tup (pv 1) pe_int (fun _ _ => rfl))) (pe_op op_mulK (pe_ix ix_tup (pv 1) pe_int (fun _ _ => rfl)) (pe_ix ix_tup (pv 0) pe_int (fun _ _ => rfl)))) (pa_cons (pe_op op_mulK (pe_ix ix_tup (pv 0) pe_int (fun _ _ => rfl)) (pe_ix ix_tup (pv 1) pe_int (fun _ _ => rfl))) pa_nil))))), ?_⟩
  refine ⟨_, rfl, f, _, 0, _, rfl, rfl, SqT.of t.ob, at0, _, rfl, g, _, 1, _, rfl, rfl, SqT.of u.ob, at1, _, _, rfl, rfl, ⟨t.st.smk (by decide), u.sb.smk (by decide)⟩, _, rfl, g, _, 0, _, rfl, rfl, SqT.of u.ob, at0, _, rfl, f, _, 1, _, rfl, rfl, SqT.of t.ob, at1, _, _, rfl, rfl, ⟨u.st.smk (by decide), t.sb.smk (by decide)⟩, _, _, rfl, rfl, ?_⟩
  refine ⟨_, rfl, f, _, 1, _, rfl, rfl, SqT.of t.ob, at1, _, rfl, g, _, 1, _, rfl, rfl, SqT.of u.ob, at1, _, _, rfl, rfl, ⟨t.sb.smk (by decide), u.sb.smk (by decide)⟩, ?_⟩
  exact frac_ready (mul_ne (rden r) (rden s)) ((t.sb.mul u.sb).smk (by decide)) (told_new (fr_plus r s) q)
theorem sc_minus : FnScope ["one", "other"] ["one", "other"] (defScope s_minus) := ⟨rfl, rfl, rfl, by decide +kernel, rfl, by decide +kernel, by decide +kernel⟩
theorem ok_minus {C : CA} {f : Addr} {fd : FuncData} (F : Fun K "minus" "minus" s_minus f fd) (T : Txt mg) {ffrac : Addr} {dfrac : FuncData} (Gfrac : FnOk P w K mg base (CXX P w) 3 ffrac dfrac ["top", "bottom"] (spFrac C)) (bfrac : Binds K dfrac ["top", "bottom"] []) (kfrac : PySem.W.keepIn K (.ref ffrac) = true) (mfrac : mg "fraction" = some (.ref ffrac)) : FnOk P w K mg base CX0 4 f fd ["one", "other"] spMinus := by
  refine F.ok sc_minus (fun vs H Q E h => ?_) (fun cdv A outer s H vs Q E hr h => ?_)
  · obtain ⟨f, g, r, s, rfl, _⟩ := h
    rfl
  obtain ⟨f, g, r, s, rfl, t, u, q⟩ := h
  refine ⟨_, (pss_one (ps_ret (pe_call Gfrac hr rfl mfrac kfrac bfrac .nil passN (pa_cons (pe_op op_sub (pe_op op_mulK (pe_ix ix_tup (pv 0) pe_int (fun _ _ => rfl)) (pe_ix ix_tup (pv 1) pe_int (fun _ _ => rfl))) (pe_op op_mulK (pe_ix ix_tup (pv 1) pe_int (fun _ _ => rfl)) (pe_ix ix_tup (pv 0) pe_int (fun _ _ => rfl)))) (pa_cons (pe_op op_mulK (pe_ix ix_tup (pv 0) pe_int (fun _ _ => rfl)) (pe_ix ix_tup (pv 1) pe_int (fun _ _ => rfl))) pa_nil))))), ?_⟩
  refine ⟨_, rfl, f, _, 0, _, rfl, rfl, SqT.of t.ob, at0, _, rfl, g, _, 1, _, rfl, rfl, SqT.of u.ob, at1, _, _, rfl, rfl, ⟨t.st.smk (by decide), u.sb.smk (by decide)⟩, _, rfl, g, _, 0, _, rfl, rfl, SqT.of u.ob, at0, _, rfl, f, _, 1, _, rfl, rfl, SqT.of t.ob, at1, _, _, rfl, rfl, ⟨u.st.smk (by decide), t.sb.smk (by decide)⟩, _, _, rfl, rfl, ?_⟩
  refine ⟨_, rfl, f, _, 1, _, rfl, rfl, SqT.of t.ob, at1, _, rfl, g, _, 1, _, rfl, rfl, SqT.of u.ob, at1, _, _, rfl, rfl, ⟨t.sb.smk (by decide), u.sb.smk (by decide)⟩, ?_⟩
  exact frac_ready (mul_ne (rden r) (rden s)) ((t.sb.mul u.sb).smk (by decide)) (told_new (fr_minus r s) q)
structure Shp (H : Hp) (a : Addr) (p : Rat) : Prop where
  ob : H a = some (.tup [.int p.num, .int (p.den : Int)])
  lo : 0 ≤ p
  hi : p ≤ 1
  sz : Sz 300 (p.den : Int)
theorem Shp.keep {H H' : Hp} {a : Addr} {p : Rat} (h : Shp H a p) (s : Same H H') : Shp H' a p := ⟨s _ _ h.ob, h.lo, h.hi, h.sz⟩
theorem shp_sz {m : Nat} {t b : Int} (h0 : 0 ≤ t) (h1 : t ≤ b) (hb : 0 < b) (sb : Sz m b) : Sz m ((rq t b).den : Int) := by
  have hq : (b : Rat) ≠ 0 := by intro e; have : b = 0 := by exact_mod_cast e
                                omega
  have er : rq t b * (b : Rat) = (t : Rat) := by unfold rq; grind
  obtain ⟨f1, f2⟩ := fr_rat (Int.ne_of_gt hb) er
  rw [← f2]
  exact (Sz.fr (Int.ne_of_gt hb) (sz_le h0 h1 sb) sb).2
theorem Shp.num {H : Hp} {a : Addr} {p : Rat} (h : Shp H a p) : 0 ≤ p.num ∧ p.num ≤ (p.den : Int) := ⟨(r_nonneg p).mpr h.lo, (r_le1 p).mpr h.hi⟩
theorem Shp.sn {H : Hp} {a : Addr} {p : Rat} (h : Shp H a p) : Sz 300 p.num := sz_le h.num.1 h.num.2 h.sz
noncomputable def ShL (H : Hp) : List Rat → List V → Prop
  | [], xs => xs = []
  | r :: rs, xs => ∃ a ys, xs = .ref a :: ys ∧ Shp H a r ∧ ShL H rs ys
theorem ShL.keep {H H' : Hp} (s : Same H H') : ∀ {rs : List Rat} {xs : List V}, ShL H rs xs → ShL H' rs xs
  | [], _, h => h
  | _ :: _, _, ⟨a, ys, e, h1, h2⟩ => ⟨a, ys, e, h1.keep s, h2.keep s⟩
theorem ShL.len {H : Hp} : ∀ {rs : List Rat} {xs : List V}, ShL H rs xs → xs.length = rs.length
  | [], _, h => by rw [show _ = [] from h]; rfl
  | _ :: _, _, ⟨a, ys, e, h1, h2⟩ => by rw [e, List.length_cons, List.length_cons, h2.len]
theorem ShL.get {H : Hp} : ∀ {rs : List Rat} {xs : List V} {i : Nat} {r : Rat}, ShL H rs xs → rs[i]? = some r → ∃ a, xs[i]? = some (.ref a) ∧ Shp H a r
  | _ :: _, _, 0, r, ⟨a, ys, e, h1, h2⟩, q => by
    rw [List.getElem?_cons_zero] at q; cases q
    exact ⟨a, by rw [e]; rfl, h1⟩
  | _ :: _, _, i + 1, r, ⟨a, ys, e, h1, h2⟩, q => by
    rw [List.getElem?_cons_succ] at q
    obtain ⟨b, f, g⟩ := h2.get q
    exact ⟨b, by rw [e, List.getElem?_cons_succ]; exact f, g⟩
theorem ShL.app {H : Hp} : ∀ {rs ss : List Rat} {xs ys : List V}, ShL H rs xs → ShL H ss ys → ShL H (rs ++ ss) (xs ++ ys)
  | [], _, _, _, h, k => by rw [show _ = [] from h]; exact k
  | _ :: _, _, _, _, ⟨a, zs, e, h1, h2⟩, k => by rw [e]; exact ⟨a, _, rfl, h1, h2.app k⟩
theorem ShL.take {H : Hp} : ∀ {rs : List Rat} {xs : List V} (n : Nat), ShL H rs xs → ShL H (rs.take n) (xs.take n)
  | [], _, n, h => by rw [show _ = [] from h]; simp [ShL]
  | _ :: _, _, 0, _ => rfl
  | _ :: _, _, n + 1, ⟨a, zs, e, h1, h2⟩ => by rw [e]; exact ⟨a, _, rfl, h1, h2.take n⟩
theorem ShL.drop {H : Hp} : ∀ {rs : List Rat} {xs : List V} (n : Nat), ShL H rs xs → ShL H (rs.drop n) (xs.drop n)
  | [], _, n, h => by rw [show _ = [] from h]; simp [ShL]
  | _ :: _, _, 0, h => h
  | _ :: _, _, n + 1, ⟨a, zs, e, h1, h2⟩ => by rw [e]; exact h2.drop n
theorem lt40 {n : Nat} (h : n ≤ 40) : n < sizeLine := Nat.lt_of_le_of_lt h (by decide)
theorem same_write {H H1 : Hp} {l : Addr} {o : HO} (s : Same H H1) (hl : H l = none) : Same H (upd H1 l o) := fun b u e => by rw [upd_ne (ne_of_none e hl)]; exact s b u e
theorem ShL.write {H : Hp} {l : Addr} {zs ws : List V} (hl : H l = some (.lst zs)) : ∀ {rs : List Rat} {xs : List V}, ShL H rs xs → ShL (upd H l (.lst ws)) rs xs
  | [], _, h => h
  | _ :: _, _, ⟨a, ys, e, h1, h2⟩ => ⟨a, ys, e, ⟨by rw [upd_ne (ne_of h1.ob hl (by intro z; cases z))]; exact h1.ob, h1.lo, h1.hi, h1.sz⟩, h2.write hl⟩
noncomputable def RowP (H : Hp) : List (Rat × Rat) → List V → Prop
  | [], xs => xs = []
  | p :: ps, xs => ∃ a la ha ys, xs = .ref a :: ys ∧ H a = some (.tup [.ref la, .ref ha]) ∧ Shp H la p.1 ∧ Shp H ha p.2 ∧ RowP H ps ys
theorem RowP.keep {H H' : Hp} (s : Same H H') : ∀ {ps : List (Rat × Rat)} {xs : List V}, RowP H ps xs → RowP H' ps xs
  | [], _, h => h
  | _ :: _, _, ⟨a, la, ha, ys, e, h0, h1, h2, h3⟩ => ⟨a, la, ha, ys, e, s _ _ h0, h1.keep s, h2.keep s, h3.keep s⟩
theorem RowP.len {H : Hp} : ∀ {ps : List (Rat × Rat)} {xs : List V}, RowP H ps xs → xs.length = ps.length
  | [], _, h => by rw [show _ = [] from h]; rfl
  | _ :: _, _, ⟨a, la, ha, ys, e, h0, h1, h2, h3⟩ => by rw [e, List.length_cons, List.length_cons, h3.len]
theorem RowP.get {H : Hp} : ∀ {ps : List (Rat × Rat)} {xs : List V} {i : Nat} {p : Rat × Rat}, RowP H ps xs → ps[i]? = some p → ∃ a la ha, xs[i]? = some (.ref a) ∧ H a = some (.tup [.ref la, .ref ha]) ∧ Shp H la p.1 ∧ Shp H ha p.2
  | _ :: _, _, 0, p, ⟨a, la, ha, ys, e, h0, h1, h2, h3⟩, q => by
    rw [List.getElem?_cons_zero] at q; cases q
    exact ⟨a, la, ha, by rw [e]; rfl, h0, h1, h2⟩
  | _ :: _, _, i + 1, p, ⟨a, la, ha, ys, e, h0, h1, h2, h3⟩, q => by
    rw [List.getElem?_cons_succ] at q
    obtain ⟨b, lb, hb, f, g⟩ := h3.get q
    exact ⟨b, lb, hb, by rw [e, List.getElem?_cons_succ]; exact f, g⟩
theorem RowP.app {H : Hp} : ∀ {ps qs : List (Rat × Rat)} {xs ys : List V}, RowP H ps xs → RowP H qs ys → RowP H (ps ++ qs) (xs ++ ys)
  | [], _, _, _, h, k => by rw [show _ = [] from h]; exact k
  | _ :: _, _, _, _, ⟨a, la, ha, zs, e, h0, h1, h2, h3⟩, k => by rw [e]; exact ⟨a, la, ha, _, rfl, h0, h1, h2, h3.app k⟩
theorem Shp.write {H : Hp} {l a : Addr} {zs ws : List V} {r : Rat} (hl : H l = some (.lst zs)) (h : Shp H a r) : Shp (upd H l (.lst ws)) a r :=
  ⟨by rw [upd_ne (ne_of h.ob hl (by intro z; cases z))]; exact h.ob, h.lo, h.hi, h.sz⟩
theorem RowP.write {H : Hp} {l : Addr} {zs ws : List V} (hl : H l = some (.lst zs)) : ∀ {ps : List (Rat × Rat)} {xs : List V}, RowP H ps xs → RowP (upd H l (.lst ws)) ps xs
  | [], _, h => h
  | _ :: _, _, ⟨a, la, ha, ys, e, h0, h1, h2, h3⟩ => ⟨a, la, ha, ys, e, by rw [upd_ne (ne_of h0 hl (by intro z; cases z))]; exact h0, h1.write hl, h2.write hl, h3.write hl⟩
structure IsRule (n : Nat) (ps : List (Rat × Rat)) : Prop where
  n1 : 1 ≤ n
  n12 : n ≤ 12
  len : ps.length = n + 1
  lows : Up (ps.map (·.1))
  highs : Up (ps.map (·.2))
  le : ∀ p ∈ ps, p.1 ≤ p.2
structure RuleAt (H : Hp) (x : Addr) (n : Nat) (ps : List (Rat × Rat)) : Prop where
  ob : ∃ t zs, H x = some (.tup [.int n, .ref t]) ∧ H t = some (.tup zs) ∧ RowP H ps zs
  ok : IsRule n ps
theorem RuleAt.keep {H H' : Hp} {x : Addr} {n : Nat} {ps : List (Rat × Rat)} (h : RuleAt H x n ps) (s : Same H H') : RuleAt H' x n ps := by
  obtain ⟨⟨t, zs, a, b, c⟩, ok⟩ := h
  exact ⟨⟨t, zs, s _ _ a, s _ _ b, c.keep s⟩, ok⟩
theorem seq_by {t u : TS} {D : Ends} {σ : St} {H : Hp} (P : St → Hp → Prop) (h1 : ∀ N : St → Hp → Prop, (∀ σ H, P σ H → N σ H) → t { D with nx := N } σ H) (h2 : ∀ σ H, P σ H → u D σ H) : tSeq t u D σ H := h1 _ h2
noncomputable def hiF (fl : Bool) (l h : Rat) : Rat := if h < l ∨ fl = true then l else h
noncomputable def stz (fl : Bool) (ls hs : List Rat) : List (Rat × Rat) := List.zipWith (fun l h => (l, hiF fl l h)) ls hs
theorem stz_at {fl : Bool} {ls hs : List Rat} {i : Nat} {p : Rat × Rat} (h : (stz fl ls hs)[i]? = some p) : ∃ l k, ls[i]? = some l ∧ hs[i]? = some k ∧ p = (l, hiF fl l k) := by
  unfold stz at h
  rw [List.getElem?_zipWith] at h
  cases e1 : ls[i]? with
  | none => rw [e1] at h; cases h
  | some l =>
    cases e2 : hs[i]? with
    | none => rw [e1, e2] at h; cases h
    | some k => rw [e1, e2] at h; exact ⟨l, k, rfl, rfl, (Option.some.inj h).symm⟩
theorem up_of {l : List Rat} (h : ∀ (i j : Nat) (x y : Rat), i < j → l[i]? = some x → l[j]? = some y → x ≤ y) : Up l := by
  refine List.pairwise_iff_getElem.mpr fun i j hi hj hij => h i j _ _ hij (List.getElem?_eq_getElem hi) (List.getElem?_eq_getElem hj)
theorem stz_rule {n : Nat} {fl : Bool} {ls hs : List Rat} (h1 : 1 ≤ n) (h12 : n ≤ 12) (u1 : Up ls) (u2 : Up hs) (l1 : ls.length = n + 1) (l2 : hs.length = n + 1) : IsRule n (stz fl ls hs) where
  n1 := h1
  n12 := h12
  len := by unfold stz; simp [l1, l2]
  lows := up_of fun i j x y hij ex ey => by
    rw [List.getElem?_map] at ex ey
    cases e1 : (stz fl ls hs)[i]? with
    | none => rw [e1] at ex; cases ex
    | some p =>
      cases e2 : (stz fl ls hs)[j]? with
      | none => rw [e2] at ey; cases ey
      | some q =>
        rw [e1] at ex; rw [e2] at ey; cases ex; cases ey
        obtain ⟨l, k, a, b, rfl⟩ := stz_at e1
        obtain ⟨l', k', a', b', rfl⟩ := stz_at e2
        exact u1.at (Nat.le_of_lt hij) a a'
  highs := up_of fun i j x y hij ex ey => by
    rw [List.getElem?_map] at ex ey
    cases e1 : (stz fl ls hs)[i]? with
    | none => rw [e1] at ex; cases ex
    | some p =>
      cases e2 : (stz fl ls hs)[j]? with
      | none => rw [e2] at ey; cases ey
      | some q =>
        rw [e1] at ex; rw [e2] at ey; cases ex; cases ey
        obtain ⟨l, k, a, b, rfl⟩ := stz_at e1
        obtain ⟨l', k', a', b', rfl⟩ := stz_at e2
        have z1 := u1.at (Nat.le_of_lt hij) a a'
        have z2 := u2.at (Nat.le_of_lt hij) b b'
        show hiF fl l k ≤ hiF fl l' k'
        unfold hiF
        split <;> split <;> grind
  le := fun p hp => by
    obtain ⟨i, hi⟩ := List.mem_iff_getElem?.mp hp
    obtain ⟨l, k, a, b, rfl⟩ := stz_at hi
    show l ≤ hiF fl l k
    unfold hiF
    split <;> grind
noncomputable def spPow : Sp := fun vs H Q _ => ∃ (b t : Int) (m : Nat), vs = [.int b, .int t] ∧ Sz m b ∧ 0 ≤ t ∧ m * t.toNat + 1 ≤ 8900 ∧ m ≤ 8900 ∧ t ≤ 1000 ∧ Q (.int (b ^ t.toNat)) H
theorem sc_pow : FnScope ["base", "count", "product", "turn"] ["base", "count"] (defScope s_pow) := ⟨rfl, rfl, rfl, by decide +kernel, rfl, by decide +kernel, by decide +kernel⟩
theorem ok_pow {f : Addr} {fd : FuncData} (F : Fun K "power" "power" s_pow f fd) (T : Txt mg) : FnOk P w K mg base CX0 1 f fd ["base", "count"] spPow := by
  refine F.ok sc_pow (fun vs H Q E h => ?_) (fun cdv A outer s H vs Q E hr h => ?_)
  · obtain ⟨b, t, m, rfl, _⟩ := h
    rfl
  obtain ⟨b, t, m, rfl, sb, t0, t1, t2, t3, q⟩ := h
  refine ⟨_, (pss_cons (ps_set (i := 2) sc_pow.nd rfl (Or.inl rfl) pe_int)
    (pss_cons (ps_for PassesOwn.never rfl (pi_range1 rfl T.range (pa_cons (pv 1) pa_nil)) (pg_name (i := 3) sc_pow.nd rfl (Or.inl rfl)) (pss_one (ps_set (i := 2) sc_pow.nd rfl (Or.inl rfl) (pe_op op_mulK (pv 2) (pv 0)))))
    (pss_one (ps_ret (pv 2))))), ?_⟩
  refine ⟨_, rfl, _, rfl, by omega, by omega, ?_⟩
  refine for_range (lo := 0) (fun i σ H' => H' = H ∧ ∃ v, σ = [some (.int b), some (.int t), some (.int (b ^ i)), v]) ⟨rfl, none, by rw [Int.pow_zero] <;> rfl⟩ ?_ ?_
  · rintro i σ H' hi ⟨rfl, v, rfl⟩
    refine ⟨_, rfl, _, rfl, _, _, rfl, rfl, ⟨(sb.powN i).smk (Nat.le_trans (Nat.add_le_add_right (Nat.mul_le_mul_left m (Nat.le_of_lt hi)) 1) t1), sb.smk t2⟩, rfl, some (.int (0 + (i : Int))), ?_⟩
    rw [Int.pow_succ] <;> rfl
  · rintro σ H' ⟨rfl, v, rfl⟩
    exact ⟨_, rfl, q⟩
theorem cho_nat {n k : Nat} (h : k ≤ n) : cho (n : Int) (k : Int) = (binom n k : Int) := by
  rw [cho_in (by omega) (by omega)] <;> rfl
theorem Shp.sd {H : Hp} {a : Addr} {p : Rat} (h : Shp H a p) : Sz 300 ((p.den : Int) - p.num) := sz_sub h.num.1 h.num.2 h.sz
theorem NewFr.on {H H' : Hp} {r : Rat} {Q : VK} (q : NewFr H r Q) (s : Same H H') : NewFr H' r Q := fun a H'' s' e => q a H'' (s.trans s') e
noncomputable def spWtop : Sp := fun vs H Q _ => ∃ (n k : Nat) (a : Addr) (p : Rat), vs = [.int n, .int k, .ref a] ∧ Shp H a p ∧ n ≤ 12 ∧ k ≤ n ∧ Q (.int (wtop p n k)) H
theorem sc_wtop : FnScope ["n", "k", "p"] ["n", "k", "p"] (defScope s_wtop) := ⟨rfl, rfl, rfl, by decide +kernel, rfl, by decide +kernel, by decide +kernel⟩
theorem ok_wtop {f : Addr} {fd : FuncData} (F : Fun K "weight_top" "weight_top" s_wtop f fd) (T : Txt mg) {fcho : Addr} {dcho : FuncData} (Gcho : FnOk P w K mg base CX0 1 fcho dcho ["n", "k"] spCho) (bcho : Binds K dcho ["n", "k"] []) (kcho : PySem.W.keepIn K (.ref fcho) = true) (mcho : mg "choices" = some (.ref fcho)) {fpow : Addr} {dpow : FuncData} (Gpow : FnOk P w K mg base CX0 1 fpow dpow ["base", "count"] spPow) (bpow : Binds K dpow ["base", "count"] []) (kpow : PySem.W.keepIn K (.ref fpow) = true) (mpow : mg "power" = some (.ref fpow)) : FnOk P w K mg base CX0 2 f fd ["n", "k", "p"] spWtop := by
  refine F.ok sc_wtop (fun vs H Q E h => ?_) (fun cdv A outer s H vs Q E hr h => ?_)
  · obtain ⟨n, k, a, p, rfl, _⟩ := h
    rfl
  obtain ⟨n, k, a, p, rfl, sp, hn, hk, q⟩ := h
  refine ⟨_, (pss_one (ps_ret (pe_op op_mulK (pe_op op_mulK (pe_call Gcho hr rfl mcho kcho bcho .nil pass0 (pa_cons (pv 0) (pa_cons (pv 1) pa_nil))) (pe_call Gpow hr rfl mpow kpow bpow .nil pass0 (pa_cons (pe_ix ix_tup (pv 2) pe_int (fun _ _ => rfl)) (pa_cons (pv 1) pa_nil)))) (pe_call Gpow hr rfl mpow kpow bpow .nil pass0 (pa_cons (pe_op op_sub (pe_ix ix_tup (pv 2) pe_int (fun _ _ => rfl)) (pe_ix ix_tup (pv 2) pe_int (fun _ _ => rfl))) (pa_cons (pe_op op_sub (pv 0) (pv 1)) pa_nil)))))), ?_⟩
  have e1 : ((k : Int)).toNat = k := rfl
  have e2 : ((n : Int) - (k : Int)).toNat = n - k := by omega
  have s1 : Sz (300 * k + 1) (p.num ^ k) := sp.sn.powN k
  have s2 : Sz (300 * (n - k) + 1) (((p.den : Int) - p.num) ^ (n - k)) := sp.sd.powN (n - k)
  have s3 := (sz_binom n k).mul s1
  refine ⟨_, rfl, _, rfl, n, k, rfl, by omega, _, rfl, a, _, 0, _, rfl, rfl, SqT.of sp.ob, at0, _, rfl, p.num, k, 300, rfl, sp.sn, by omega, by omega, by decide, by omega, ?_⟩
  rw [cho_nat hk, e1]
  refine ⟨_, _, rfl, rfl, ⟨(sz_binom n k).smk (by omega), s1.smk (by omega)⟩, _, rfl, a, _, 1, _, rfl, rfl, SqT.of sp.ob, at1, _, rfl, a, _, 0, _, rfl, rfl, SqT.of sp.ob, at0, _, _, rfl, rfl, _, rfl, _, rfl, _, _, rfl, rfl, _, _, 300, rfl, sp.sd, by omega, by omega, by decide, by omega, ?_⟩
  rw [e2]
  exact ⟨_, _, rfl, rfl, ⟨s3.smk (by omega), s2.smk (by omega)⟩, q⟩
noncomputable def spRsum : Sp := fun vs H Q _ => ∃ (n i j : Nat) (a : Addr) (p : Rat), vs = [.int n, .int i, .int j, .ref a] ∧ Shp H a p ∧ n ≤ 12 ∧ i ≤ n ∧ j ≤ n ∧ NewFr H (rsum p n i j) Q
noncomputable def ipart (p : Rat) (n i d : Nat) : Int := ism (wtop p n) d - ism (wtop p n) i
theorem ipart_is (p : Rat) {n i d : Nat} (hi : i ≤ n + 1) (hd : d ≤ n + 1) : rn p n i d * (((p.den : Int) ^ n : Int) : Rat) = ((ipart p n i d : Int) : Rat) := by
  have a := ism_cast (f := wtop p n) (g := wt p n) (c := (((p.den : Int) ^ n : Int) : Rat)) (m := i) fun k hk => wtop_is p (by omega)
  have b := ism_cast (f := wtop p n) (g := wt p n) (c := (((p.den : Int) ^ n : Int) : Rat)) (m := d) fun k hk => wtop_is p (by omega)
  unfold rn cu ipart
  rw [Rat.intCast_sub, ← a, ← b]; grind
theorem tops_sum (p : Rat) (n i m : Nat) : ((List.range m).map fun k => wtop p n (i + k)).sum = ipart p n i (i + m) := by
  induction m with
  | zero => simp [ipart]
  | succ m ih =>
    rw [List.range_succ, List.map_append, List.sum_append, ih, List.map_cons, List.map_nil, List.sum_cons, List.sum_nil]
    unfold ipart
    rw [← Nat.add_assoc, ism]
    omega
theorem sc_rsum : FnScope ["n", "i", "j", "p", "tops"] ["n", "i", "j", "p"] (defScope s_rsum) := ⟨rfl, rfl, rfl, by decide +kernel, rfl, by decide +kernel, by decide +kernel⟩
theorem ok_rsum {C : CA} {f : Addr} {fd : FuncData} (F : Fun K "run_sum" "run_sum" s_rsum f fd) (T : Txt mg) {fwtop : Addr} {dwtop : FuncData} (Gwtop : FnOk P w K mg base CX0 3 fwtop dwtop ["n", "k", "p"] spWtop) (bwtop : Binds K dwtop ["n", "k", "p"] []) (kwtop : PySem.W.keepIn K (.ref fwtop) = true) (mwtop : mg "weight_top" = some (.ref fwtop)) {fpow : Addr} {dpow : FuncData} (Gpow : FnOk P w K mg base CX0 3 fpow dpow ["base", "count"] spPow) (bpow : Binds K dpow ["base", "count"] []) (kpow : PySem.W.keepIn K (.ref fpow) = true) (mpow : mg "power" = some (.ref fpow)) {ffrac : Addr} {dfrac : FuncData} (Gfrac : FnOk P w K mg base (CXX P w) 3 ffrac dfrac ["top", "bottom"] (spFrac C)) (bfrac : Binds K dfrac ["top", "bottom"] []) (kfrac : PySem.W.keepIn K (.ref ffrac) = true) (mfrac : mg "fraction" = some (.ref ffrac)) : FnOk P w K mg base CX0 4 f fd ["n", "i", "j", "p"] spRsum := by
  refine F.ok sc_rsum (fun vs H Q E h => ?_) (fun cdv A outer s H vs Q E hr h => ?_)
  · obtain ⟨n, i, j, a, p, rfl, _⟩ := h
    rfl
  obtain ⟨n, i, j, a, p, rfl, sp, hn, hi, hj, q⟩ := h
  refine ⟨_, (pss_cons (ps_setC (i := 4) sc_rsum.nd rfl (Or.inl rfl) (xs := ["k"]) (ts := [("n", 0), ("p", 3)]) rfl ⟨rfl, sub2 rfl rfl, rfl, rfl, rfl, by decide +kernel, rfl, rfl⟩ (pi_range2 rfl T.range (pa_cons (pv 1) (pa_cons (pe_op op_add (pv 2) pe_int) pa_nil))) (fun C s3 H3 fp => (pg_name (i := 0) (show (["k", "n", "p"] : List Str).Nodup by decide +kernel) rfl (Or.inl rfl) (Or.inr rfl))) (fun C s3 H3 fp => pif_nil) (fun C s3 H3 fp => (pe_call Gwtop hr rfl mwtop kwtop bwtop .nil pass0 (pa_cons (pv 1) (pa_cons (pv 0) (pa_cons (pv 2) pa_nil))))))
    (pss_one (ps_ret (pe_call Gfrac hr rfl mfrac kfrac bfrac .nil passN (pa_cons (pe_callB (call_sum rfl) rfl T.sum boot_sum (pa_cons (pv 4) pa_nil)) (pa_cons (pe_call Gpow hr rfl mpow kpow bpow .nil pass0 (pa_cons (pe_ix ix_tup (pv 3) pe_int (fun _ _ => rfl)) (pa_cons (pv 0) pa_nil))) pa_nil)))))), ?_⟩
  refine ⟨_, rfl, _, rfl, _, _, rfl, rfl, _, _, rfl, ⟨by omega, by omega, by omega, by omega⟩, fun D hD => ?_⟩
  have em : i + ((j : Int) + 1 - (i : Int)).toNat = max i (j + 1) := by omega
  have lim : max i (j + 1) ≤ n + 1 := by omega
  refine comp_rangeG (fun m => V.int (wtop p n (i + m))) hD (Nat.le_trans (show _ ≤ 40 by omega) (by decide)) ?_ ?_
  · intro m H2 k hm sm hk
    have ek : (i : Int) + (m : Int) = ((i + m : Nat) : Int) := by omega
    rw [ek]
    exact ⟨_, rfl, _, rfl, _, rfl, n, i + m, a, p, rfl, sp.keep sm, hn, by omega, hk H2 (Same.refl H2)⟩
  intro H2 s2 hD2
  refine ⟨_, rfl, D, (List.range ((j : Int) + 1 - (i : Int)).toNat).map (fun m => wtop p n (i + m)), rfl, SqL.of (by rw [hD2, List.map_map]; rfl), ?_⟩
  rw [tops_sum, em]
  refine ⟨_, rfl, a, _, 1, _, rfl, rfl, SqT.of (sp.keep s2).ob, at1, _, rfl, (p.den : Int), n, 300, rfl, sp.sz, by omega, by omega, by decide, by omega, ?_⟩
  have e3 : ((n : Int)).toNat = n := rfl
  rw [e3]
  have dp : (0 : Int) < (p.den : Int) ^ n := Int.pow_pos (rden p)
  exact frac_ready (Int.ne_of_gt dp) ((sp.sz.powN n).smk (by omega)) (told_new (fr_rat (Int.ne_of_gt dp) (ipart_is p (show i ≤ n + 1 by omega) lim)) (q.on s2))
theorem Shp.fr {H : Hp} {a : Addr} {p : Rat} (h : Shp H a p) : FrA H a p := ⟨h.ob, h.sn.mono (by decide), h.sz.mono (by decide)⟩
noncomputable def spUnd : Sp := fun vs H Q _ => ∃ f g r s, vs = [.ref f, .ref g] ∧ FrA H f r ∧ FrA H g s ∧ Q (.bl (decide (r < s))) H
theorem sc_und : FnScope ["one", "other"] ["one", "other"] (defScope s_und) := ⟨rfl, rfl, rfl, by decide +kernel, rfl, by decide +kernel, by decide +kernel⟩
theorem ok_und {f : Addr} {fd : FuncData} (F : Fun K "under" "under" s_und f fd) (T : Txt mg) : FnOk P w K mg base CX0 1 f fd ["one", "other"] spUnd := by
  refine F.ok sc_und (fun vs H Q E h => ?_) (fun cdv A outer s H vs Q E hr h => ?_)
  · obtain ⟨f, g, r, s, rfl, _⟩ := h
    rfl
  obtain ⟨f, g, r, s, rfl, t, u, q⟩ := h
  refine ⟨_, (pss_one (ps_ret (pe_cmpR op_lt (pe_op op_mulK (pe_ix ix_tup (pv 0) pe_int (fun _ _ => rfl)) (pe_ix ix_tup (pv 1) pe_int (fun _ _ => rfl))) (pe_op op_mulK (pe_ix ix_tup (pv 1) pe_int (fun _ _ => rfl)) (pe_ix ix_tup (pv 0) pe_int (fun _ _ => rfl))) (nomark _)))), ?_⟩
  refine ⟨_, rfl, f, _, 0, _, rfl, rfl, SqT.of t.ob, at0, _, rfl, g, _, 1, _, rfl, rfl, SqT.of u.ob, at1, _, _, rfl, rfl, ⟨t.st.smk (by decide), u.sb.smk (by decide)⟩, _, rfl, g, _, 0, _, rfl, rfl, SqT.of u.ob, at0, _, rfl, f, _, 1, _, rfl, rfl, SqT.of t.ob, at1, _, _, rfl, rfl, ⟨u.st.smk (by decide), t.sb.smk (by decide)⟩, _, _, rfl, rfl, ?_⟩
  have e : decide (r.num * (s.den : Int) < s.num * (r.den : Int)) = decide (r < s) := by
    by_cases c : r < s
    · rw [decide_eq_true c, decide_eq_true ((r_under r s).mpr c)]
    · rw [decide_eq_false c, decide_eq_false (fun z => c ((r_under r s).mp z))]
  show Q (.bl (decide (r.num * (s.den : Int) < s.num * (r.den : Int)))) H
  rw [e]
  exact q
theorem frA_of {H : Hp} {f : Addr} {r : Rat} {B : Nat} (e : H f = some (.tup [.int r.num, .int (r.den : Int)])) (h : Ov B r) (hB : 0 < B) (hn : B < 2 ^ 4400) (h0 : 0 ≤ r) (h1 : r ≤ 1) : FrA H f r :=
  have z := RSz.of h hB hn h0 h1
  ⟨e, z.t, z.b⟩
theorem Shp.den1 {H : Hp} {a : Addr} {p : Rat} (h : Shp H a p) : 0 < p.den ∧ p.den < 2 ^ 300 := ⟨by have := p.den_nz; omega, by have := h.sz; unfold Sz at this; omega⟩
theorem Shp.pw {H : Hp} {a : Addr} {p : Rat} (h : Shp H a p) {n : Nat} (hn : n ≤ 14) : 0 < p.den ^ n ∧ p.den ^ n < 2 ^ 4400 := by
  refine ⟨Nat.pow_pos h.den1.1, ?_⟩
  by_cases z : n = 0
  · subst z; rw [Nat.pow_zero]; exact Nat.one_lt_two_pow (by decide)
  · exact Nat.lt_of_lt_of_le (powlt h.den1.2 (by omega)) (Nat.pow_le_pow_right (by decide) (by omega))
theorem shp0 {H : Hp} {a : Addr} (h : H a = some (.tup [.int 0, .int 1])) : Shp H a 0 := ⟨h, by decide, by decide, by show (1 : Nat) < 2 ^ 300; decide⟩
theorem shp1 {H : Hp} {a : Addr} (h : H a = some (.tup [.int 1, .int 1])) : Shp H a 1 := ⟨h, by decide, by decide, by show (1 : Nat) < 2 ^ 300; decide⟩
noncomputable abbrev lowsOf (ps : List (Rat × Rat)) : List Rat := ps.map (·.1)
noncomputable abbrev highsOf (ps : List (Rat × Rat)) : List Rat := ps.map (·.2)
noncomputable def runOf (ps : List (Rat × Rat)) (a b : Rat) : Option (Nat × Nat) := if lower b (highsOf ps) < upto a (lowsOf ps) then some (lower b (highsOf ps), upto a (lowsOf ps) - 1) else none
noncomputable def RunV (H : Hp) : Option (Nat × Nat) → V → Prop
  | none, v => v = .non
  | some r, v => ∃ t, v = .ref t ∧ H t = some (.tup [.int (r.1 : Int), .int (r.2 : Int)])
theorem RunV.keep {H H' : Hp} (s : Same H H') : ∀ {r : Option (Nat × Nat)} {v : V}, RunV H r v → RunV H' r v
  | none, _, h => h
  | some _, _, ⟨t, e, h⟩ => ⟨t, e, s _ _ h⟩
theorem run_in {n : Nat} {ps : List (Rat × Rat)} (ok : IsRule n ps) {a b : Rat} {r : Nat × Nat} (h : runOf ps a b = some r) : r.1 ≤ r.2 ∧ r.2 ≤ n := by
  unfold runOf at h
  split at h
  · rename_i c
    cases h
    have := upto_len a (lowsOf ps)
    rw [List.length_map, ok.len] at this
    exact ⟨by show lower b (highsOf ps) ≤ upto a (lowsOf ps) - 1; omega, by show upto a (lowsOf ps) - 1 ≤ n; omega⟩
  · cases h
theorem lower_cnt {r : Rat} : ∀ {l : List Rat}, Up l → (l.filter fun x => decide (x < r)).length = lower r l
  | [], _ => rfl
  | x :: l, u => by
    by_cases c : x < r
    · have e : (x :: l).filter (fun x => decide (x < r)) = x :: l.filter (fun x => decide (x < r)) := by simp [c]
      rw [e, List.length_cons, lower_cnt (List.pairwise_cons.mp u).2, lower, if_pos c]
    · have e : (x :: l).filter (fun x => decide (x < r)) = l.filter (fun x => decide (x < r)) := by simp [c]
      rw [e, lower, if_neg c]
      have : l.filter (fun x => decide (x < r)) = [] := by
        apply List.filter_eq_nil_iff.mpr
        intro y hy
        have := (List.pairwise_cons.mp u).1 y hy
        simp
        grind
      rw [this] <;> rfl
theorem cnt_highs {ps : List (Rat × Rat)} (u : Up (highsOf ps)) (b : Rat) : (ps.filter fun h => decide (h.2 < b)).length = lower b (highsOf ps) := by
  rw [← lower_cnt u]
  unfold highsOf
  rw [List.filter_map, List.length_map] <;> rfl
theorem cnt_lows {ps : List (Rat × Rat)} (u : Up (lowsOf ps)) (a : Rat) : (ps.filter fun h => !decide (a < h.1)).length = upto a (lowsOf ps) := by
  rw [← upto_cnt u]
  unfold lowsOf
  rw [List.filter_map, List.length_map]
  congr 1
  apply List.filter_congr
  intro x _
  by_cases c : a < x.1
  · have : ¬ x.1 ≤ a := by grind
    simp [c, this]
  · have : x.1 ≤ a := by grind
    simp [c, this]
noncomputable def spRov : Sp := fun vs H Q _ => ∃ (x : Addr) (n : Nat) (ps : List (Rat × Rat)) (a b : Addr) (ra rb : Rat), vs = [.ref x, .ref a, .ref b] ∧ RuleAt H x n ps ∧ Shp H a ra ∧ Shp H b rb ∧ ∀ v H', Same H H' → RunV H' (runOf ps ra rb) v → Q v H'
theorem sc_rov : FnScope ["rule", "a", "b", "first", "last"] ["rule", "a", "b"] (defScope s_rov) := ⟨rfl, rfl, rfl, by decide +kernel, rfl, by decide +kernel, by decide +kernel⟩
theorem ok_rov {f : Addr} {fd : FuncData} (F : Fun K "run_over" "run_over" s_rov f fd) (T : Txt mg) {fund : Addr} {dund : FuncData} (Gund : FnOk P w K mg base CX0 1 fund dund ["one", "other"] spUnd) (bund : Binds K dund ["one", "other"] []) (kund : PySem.W.keepIn K (.ref fund) = true) (mund : mg "under" = some (.ref fund)) : FnOk P w K mg base CX0 2 f fd ["rule", "a", "b"] spRov := by
  refine F.ok sc_rov (fun vs H Q E h => ?_) (fun cdv A outer s H vs Q E hr h => ?_)
  · obtain ⟨x, n, ps, a, b, ra, rb, rfl, _⟩ := h
    rfl
  obtain ⟨x, n, ps, a, b, ra, rb, rfl, ⟨⟨t, zs, hx, ht, row⟩, ok⟩, sa, sb, q⟩ := h
  refine ⟨_, (pss_cons (ps_set (i := 3) sc_rov.nd rfl (Or.inl rfl) (pe_callB call_len_seq rfl T.len boot_len (pa_cons (pe_compG (xs := ["low", "high"]) (ts := [("b", 2)]) rfl ⟨rfl, sub1 rfl, rfl, rfl, rfl, by decide +kernel, rfl, rfl⟩ (pi_tup (pe_ix ix_tup (pv 0) pe_int (fun _ _ => rfl))) (fun C s3 H3 fp => (pg_tupC (n := 2) rfl (pgs_cons (pg_name (i := 0) (show (["low", "high", "b"] : List Str).Nodup by decide +kernel) rfl (Or.inl rfl) (Or.inr rfl)) (pgs_cons (pg_name (i := 1) (show (["low", "high", "b"] : List Str).Nodup by decide +kernel) rfl (Or.inl rfl) (Or.inr rfl)) pgs_nil)))) (fun C s3 H3 fp => (pif_one (pt_val (pe_call Gund hr rfl mund kund bund .nil pass0 (pa_cons (pv 1) (pa_cons (pv 2) pa_nil)))))) (fun C s3 H3 fp => (pv 1))) pa_nil)))
    (pss_cons (ps_set (i := 4) sc_rov.nd rfl (Or.inl rfl) (pe_op op_sub (pe_callB call_len_seq rfl T.len boot_len (pa_cons (pe_compG (xs := ["low", "high"]) (ts := [("a", 1)]) rfl ⟨rfl, sub1 rfl, rfl, rfl, rfl, by decide +kernel, rfl, rfl⟩ (pi_tup (pe_ix ix_tup (pv 0) pe_int (fun _ _ => rfl))) (fun C s3 H3 fp => (pg_tupC (n := 2) rfl (pgs_cons (pg_name (i := 0) (show (["low", "high", "a"] : List Str).Nodup by decide +kernel) rfl (Or.inl rfl) (Or.inr rfl)) (pgs_cons (pg_name (i := 1) (show (["low", "high", "a"] : List Str).Nodup by decide +kernel) rfl (Or.inl rfl) (Or.inr rfl)) pgs_nil)))) (fun C s3 H3 fp => (pif_one (pt_not (pt_val (pe_call Gund hr rfl mund kund bund .nil pass0 (pa_cons (pv 2) (pa_cons (pv 0) pa_nil))))))) (fun C s3 H3 fp => (pv 0))) pa_nil)) pe_int))
    (pss_cons (ps_if (pt_cmpR op_gt (pv 3) (pv 4) (nomark _)) (pss_one (ps_ret pe_non)) pss_nil)
    (pss_one (ps_ret (pe_tup (pa_cons (pv 3) (pa_cons (pv 4) pa_nil)))))))), ?_⟩
  have lz := row.len
  have l13 := ok.len
  have n12 := ok.n12
  have big : zs.length ≤ sizeLine := Nat.le_trans (show zs.length ≤ 40 by omega) (by decide)
  refine ⟨_, rfl, x, _, 1, _, rfl, rfl, SqT.of hx, at1, t, rfl, ⟨_, SqT.of ht⟩, fun D hD => ?_⟩
  refine comp_pairF ps (fun h => decide (h.2 < rb)) (fun h u v => ∃ la ha, u = .ref la ∧ v = .ref ha ∧ Shp H la h.1 ∧ Shp H ha h.2) hD (SqT.of ht) (by omega) big ?_ ?_ ?_ ?_
  · intro i h e
    obtain ⟨c, la, ha, e1, e2, e3, e4⟩ := row.get e
    exact ⟨c, _, _, e1, e2, la, ha, rfl, rfl, e3, e4⟩
  · rintro h u v H2 k ⟨la, ha, rfl, rfl, s1, s2⟩ sm hk
    exact ⟨_, rfl, _, rfl, ha, b, _, _, rfl, (s2.keep sm).fr, (sb.keep sm).fr, _, rfl, hk H2 (Same.refl H2)⟩
  · rintro h u v H2 k ⟨la, ha, rfl, rfl, s1, s2⟩ sm hk
    exact ⟨_, rfl, hk _ _ (Same.refl H2)⟩
  intro H1 ys s1 hD1 hl1
  rw [cnt_highs ok.highs] at hl1
  refine ⟨D, ys, rfl, .inl (SqL.of hD1), ?_⟩
  rw [hl1]
  refine ⟨_, rfl, x, _, 1, _, rfl, rfl, SqT.of (s1 _ _ hx), at1, t, rfl, ⟨_, SqT.of (s1 _ _ ht)⟩, fun D' hD' => ?_⟩
  refine comp_pairF ps (fun h => !decide (ra < h.1)) (fun h u v => ∃ la ha, u = .ref la ∧ v = .ref ha ∧ Shp H la h.1 ∧ Shp H ha h.2) hD' (SqT.of (s1 _ _ ht)) (by omega) big ?_ ?_ ?_ ?_
  · intro i h e
    obtain ⟨c, la, ha, e1, e2, e3, e4⟩ := row.get e
    exact ⟨c, _, _, e1, s1 _ _ e2, la, ha, rfl, rfl, e3, e4⟩
  · rintro h u v H2 k ⟨la, ha, rfl, rfl, t1, t2⟩ sm hk
    exact ⟨_, rfl, _, rfl, a, la, _, _, rfl, (sa.keep (s1.trans sm)).fr, (t1.keep (s1.trans sm)).fr, _, rfl, hk H2 (Same.refl H2)⟩
  · rintro h u v H2 k ⟨la, ha, rfl, rfl, t1, t2⟩ sm hk
    exact ⟨_, rfl, hk _ _ (Same.refl H2)⟩
  intro H2 ys' s2 hD2 hl2
  rw [cnt_lows ok.lows] at hl2
  refine ⟨D', ys', rfl, .inl (SqL.of hD2), _, _, rfl, rfl, ?_⟩
  rw [hl2]
  refine ⟨_, rfl, _, rfl, _, _, rfl, rfl, _, rfl, ?_⟩
  refine ite2 (fun c => ?_) (fun c => ?_)
  · have c' : (upto ra (lowsOf ps) : Int) - 1 < (lower rb (highsOf ps) : Int) := of_decide_eq_true c
    refine q _ _ (s1.trans s2) ?_
    unfold runOf
    rw [if_neg (by omega)] <;> rfl
  · have c' := ofD c
    refine ⟨_, rfl, _, rfl, (by show 2 ≤ sizeLine; decide), fun r hr' => q _ _ ((s1.trans s2).trans (same_new hr' _)) ?_⟩
    unfold runOf
    rw [if_pos (by omega)]
    refine ⟨r, rfl, ?_⟩
    rw [upd_same]
    have e : ((upto ra (lowsOf ps) : Int) - 1) = ((upto ra (lowsOf ps) - 1 : Nat) : Int) := by omega
    show some (HO.tup [V.int _, V.int ((upto ra (lowsOf ps) : Int) - 1)]) = _
    rw [e]
noncomputable def spHeld : Sp := fun vs H Q _ => ∃ (x : Addr) (n : Nat) (ps : List (Rat × Rat)) (a : Addr) (r : Rat), vs = [.ref x, .ref a] ∧ RuleAt H x n ps ∧ Shp H a r ∧ ∀ v H', Same H H' → RunV H' (runOf ps r r) v → Q v H'
theorem sc_held : FnScope ["rule", "p"] ["rule", "p"] (defScope s_held) := ⟨rfl, rfl, rfl, by decide +kernel, rfl, by decide +kernel, by decide +kernel⟩
theorem ok_held {f : Addr} {fd : FuncData} (F : Fun K "held" "held" s_held f fd) (T : Txt mg) {frov : Addr} {drov : FuncData} (Grov : FnOk P w K mg base CX0 2 frov drov ["rule", "a", "b"] spRov) (brov : Binds K drov ["rule", "a", "b"] []) (krov : PySem.W.keepIn K (.ref frov) = true) (mrov : mg "run_over" = some (.ref frov)) : FnOk P w K mg base CX0 3 f fd ["rule", "p"] spHeld := by
  refine F.ok sc_held (fun vs H Q E h => ?_) (fun cdv A outer s H vs Q E hr h => ?_)
  · obtain ⟨x, n, ps, a, r, rfl, _⟩ := h
    rfl
  obtain ⟨x, n, ps, a, r, rfl, hx, sa, q⟩ := h
  refine ⟨_, (pss_one (ps_ret (pe_call Grov hr rfl mrov krov brov .nil pass0 (pa_cons (pv 0) (pa_cons (pv 1) (pa_cons (pv 1) pa_nil)))))), ?_⟩
  exact ⟨_, rfl, _, rfl, _, rfl, x, n, ps, a, a, r, r, rfl, hx, sa, sa, q⟩
noncomputable def rsumO (p : Rat) (n : Nat) : Option (Nat × Nat) → Rat
  | none => 0
  | some r => rsum p n r.1 r.2
theorem cov_run {n : Nat} {ps : List (Rat × Rat)} (a b p : Rat) : rsumO p n (runOf ps a b) = cov n (lowsOf ps) (highsOf ps) a b p := by
  unfold runOf cov
  split
  · rename_i c
    show rn p n (lower b (highsOf ps)) (max (lower b (highsOf ps)) (upto a (lowsOf ps) - 1 + 1)) = _
    rw [show upto a (lowsOf ps) - 1 + 1 = upto a (lowsOf ps) by omega]
  · rename_i c
    show (0 : Rat) = _
    rw [Nat.max_eq_left (by omega)]
    unfold rn
    grind
noncomputable def spSor : Sp := fun vs H Q _ => ∃ (n : Nat) (v : V) (r : Option (Nat × Nat)) (a : Addr) (p : Rat), vs = [.int n, v, .ref a] ∧ RunV H r v ∧ Shp H a p ∧ n ≤ 12 ∧ (∀ z, r = some z → z.1 ≤ z.2 ∧ z.2 ≤ n) ∧ NewFr H (rsumO p n r) Q
theorem sc_sor : FnScope ["n", "run", "p"] ["n", "run", "p"] (defScope s_sor) := ⟨rfl, rfl, rfl, by decide +kernel, rfl, by decide +kernel, by decide +kernel⟩
theorem ok_sor {f : Addr} {fd : FuncData} (F : Fun K "sum_of_run" "sum_of_run" s_sor f fd) (T : Txt mg) {frsum : Addr} {drsum : FuncData} (Grsum : FnOk P w K mg base CX0 4 frsum drsum ["n", "i", "j", "p"] spRsum) (brsum : Binds K drsum ["n", "i", "j", "p"] []) (krsum : PySem.W.keepIn K (.ref frsum) = true) (mrsum : mg "run_sum" = some (.ref frsum)) : FnOk P w K mg base CX0 5 f fd ["n", "run", "p"] spSor := by
  refine F.ok sc_sor (fun vs H Q E h => ?_) (fun cdv A outer s H vs Q E hr h => ?_)
  · obtain ⟨n, v, r, a, p, rfl, _⟩ := h
    rfl
  obtain ⟨n, v, r, a, p, rfl, rv, sp, hn, hz, q⟩ := h
  refine ⟨_, (pss_cons (ps_if (pt_cmpR op_isN (pv 1) pe_non (nomark _)) (pss_one (ps_ret (pe_tup (pa_cons pe_int (pa_cons pe_int pa_nil))))) pss_nil)
    (pss_one (ps_ret (pe_call Grsum hr rfl mrsum krsum brsum .nil pass0 (pa_cons (pv 0) (pa_cons (pe_ix ix_tup (pv 1) pe_int (fun _ _ => rfl)) (pa_cons (pe_ix ix_tup (pv 1) pe_int (fun _ _ => rfl)) (pa_cons (pv 2) pa_nil)))))))), ?_⟩
  cases r with
  | none =>
    have e : v = V.non := rv
    subst e
    refine ⟨_, rfl, rfl, _, rfl, iteT ?_⟩
    refine ⟨(by show 2 ≤ sizeLine; decide), fun t ht => q t _ (same_new ht _) ?_⟩
    rw [upd_same] <;> rfl
  | some z =>
    obtain ⟨t, e, ht⟩ := rv
    subst e
    obtain ⟨z1, z2⟩ := hz z rfl
    refine ⟨_, rfl, rfl, _, rfl, iteF ?_⟩
    exact ⟨_, rfl, _, rfl, t, _, 0, _, rfl, rfl, SqT.of ht, at0, _, rfl, t, _, 1, _, rfl, rfl, SqT.of ht, at1, _, rfl, n, z.1, z.2, a, p, rfl, sp, hn, by omega, z2, q⟩
noncomputable def spCov : Sp := fun vs H Q _ => ∃ (x : Addr) (n : Nat) (ps : List (Rat × Rat)) (a : Addr) (p : Rat), vs = [.ref x, .ref a] ∧ RuleAt H x n ps ∧ Shp H a p ∧ NewFr H (rsumO p n (runOf ps p p)) Q
theorem sc_cov : FnScope ["rule", "p"] ["rule", "p"] (defScope s_cov) := ⟨rfl, rfl, rfl, by decide +kernel, rfl, by decide +kernel, by decide +kernel⟩
theorem ok_cov {f : Addr} {fd : FuncData} (F : Fun K "cover" "cover" s_cov f fd) (T : Txt mg) {fheld : Addr} {dheld : FuncData} (Gheld : FnOk P w K mg base CX0 5 fheld dheld ["rule", "p"] spHeld) (bheld : Binds K dheld ["rule", "p"] []) (kheld : PySem.W.keepIn K (.ref fheld) = true) (mheld : mg "held" = some (.ref fheld)) {fsor : Addr} {dsor : FuncData} (Gsor : FnOk P w K mg base CX0 5 fsor dsor ["n", "run", "p"] spSor) (bsor : Binds K dsor ["n", "run", "p"] []) (ksor : PySem.W.keepIn K (.ref fsor) = true) (msor : mg "sum_of_run" = some (.ref fsor)) : FnOk P w K mg base CX0 6 f fd ["rule", "p"] spCov := by
  refine F.ok sc_cov (fun vs H Q E h => ?_) (fun cdv A outer s H vs Q E hr h => ?_)
  · obtain ⟨x, n, ps, a, p, rfl, _⟩ := h
    rfl
  obtain ⟨x, n, ps, a, p, rfl, hx, sa, q⟩ := h
  refine ⟨_, (pss_one (ps_ret (pe_call Gsor hr rfl msor ksor bsor .nil pass0 (pa_cons (pe_ix ix_tup (pv 0) pe_int (fun _ _ => rfl)) (pa_cons (pe_call Gheld hr rfl mheld kheld bheld .nil pass0 (pa_cons (pv 0) (pa_cons (pv 1) pa_nil))) (pa_cons (pv 1) pa_nil)))))), ?_⟩
  obtain ⟨t, zs, ex, et, row⟩ := hx.ob
  refine ⟨_, rfl, x, _, 0, _, rfl, rfl, SqT.of ex, at0, _, rfl, _, rfl, x, n, ps, a, p, rfl, hx, sa, fun v H1 s1 rv => ?_⟩
  exact ⟨_, rfl, n, v, _, a, p, rfl, rv, sa.keep s1, hx.ok.n12, fun z hz => run_in hx.ok hz, q.on s1⟩
noncomputable def rimL (ps : List (Rat × Rat)) : List Rat := 0 :: 1 :: ps.flatMap fun p => [p.1, p.2]
theorem rimL_len (ps : List (Rat × Rat)) : (rimL ps).length = 2 + 2 * ps.length := by
  unfold rimL
  induction ps with
  | nil => rfl
  | cons p ps ih => simp only [List.flatMap_cons, List.length_cons, List.length_append, List.length_nil] at ih ⊢; omega
theorem rimL_snoc (ps : List (Rat × Rat)) (p : Rat × Rat) : rimL (ps ++ [p]) = rimL ps ++ [p.1, p.2] := by
  unfold rimL
  rw [List.flatMap_append] <;> rfl
theorem prs_of {H : Hp} : ∀ {rs : List Rat} {xs : List V}, ShL H rs xs → Prs H (rs.map fun r => (r.num, (r.den : Int))) xs
  | [], _, h => h
  | _ :: _, _, ⟨a, ys, e, h1, h2⟩ => ⟨a, ys, e, h1.ob, prs_of h2⟩
theorem any_mem (rs : List Rat) (r : Rat) : ((rs.map fun r => (r.num, (r.den : Int))).any fun w => decide (w = (r.num, (r.den : Int)))) = decide (r ∈ rs) := by
  rw [Bool.eq_iff_iff, List.any_eq_true, decide_eq_true_iff]
  constructor
  · rintro ⟨w, hw, e⟩
    obtain ⟨s, hs, rfl⟩ := List.mem_map.mp hw
    have e' := of_decide_eq_true e
    simp only [Prod.mk.injEq] at e'
    rw [← r_same e'.1 e'.2]
    exact hs
  · intro h
    exact ⟨_, List.mem_map.mpr ⟨r, h, rfl⟩, decide_eq_true rfl⟩
noncomputable def spEdges : Sp := fun vs H Q _ => ∃ (x : Addr) (n : Nat) (ps : List (Rat × Rat)), vs = [.ref x] ∧ RuleAt H x n ps ∧ ∀ l H' ws, H l = none → Same H H' → H' l = some (.lst ws) → ShL H' (edg (rimL ps)) ws → Q (.ref l) H'
theorem sc_edges : FnScope ["rule", "ends", "stretch", "told", "end", "place"] ["rule"] (defScope s_edges) := ⟨rfl, rfl, rfl, by decide +kernel, rfl, by decide +kernel, by decide +kernel⟩
theorem ok_edges {f : Addr} {fd : FuncData} (F : Fun K "edges" "edges" s_edges f fd) (T : Txt mg) {fund : Addr} {dund : FuncData} (Gund : FnOk P w K mg base CX0 1 fund dund ["one", "other"] spUnd) (bund : Binds K dund ["one", "other"] []) (kund : PySem.W.keepIn K (.ref fund) = true) (mund : mg "under" = some (.ref fund)) : FnOk P w K mg base CX0 2 f fd ["rule"] spEdges := by
  refine F.ok sc_edges (fun vs H Q E h => ?_) (fun cdv A outer s H vs Q E hr h => ?_)
  · obtain ⟨x, n, ps, rfl, _⟩ := h
    rfl
  obtain ⟨x, n, ps, rfl, ⟨⟨t, zs, hx, ht, row⟩, ok⟩, q⟩ := h
  refine ⟨_, (pss_cons (ps_set (i := 1) sc_edges.nd rfl (Or.inl rfl) (pe_lst (pa_cons (pe_tup (pa_cons pe_int (pa_cons pe_int pa_nil))) (pa_cons (pe_tup (pa_cons pe_int (pa_cons pe_int pa_nil))) pa_nil))))
    (pss_cons (ps_for PassesOwn.never rfl (pi_tup (pe_ix ix_tup (pv 0) pe_int (fun _ _ => rfl))) (pg_name (i := 2) sc_edges.nd rfl (Or.inl rfl)) (pss_one (ps_expr (pe_bm PySem.F.plainAttrs_list PySem.F.slot_list_extend PySem.F.type_list_extend mt_extendT (pv 1) (pa_cons (pv 2) pa_nil)))))
    (pss_cons (ps_set (i := 3) sc_edges.nd rfl (Or.inl rfl) (pe_lst pa_nil))
    (pss_cons (ps_for PassesOwn.never rfl (pi_list (pv 1)) (pg_name (i := 4) sc_edges.nd rfl (Or.inr rfl)) (pss_one (ps_if (pt_cmpR (op_notInP hr.units) (pv 4) (pv 3) (by with_unfolding_all rfl)) (pss_cons (ps_set (i := 5) sc_edges.nd rfl (Or.inl rfl) (pe_callB call_len_seq rfl T.len boot_len (pa_cons (pe_compG (xs := ["edge"]) (ts := [("end", 4)]) rfl ⟨rfl, sub1 rfl, rfl, rfl, rfl, by decide +kernel, rfl, rfl⟩ (pi_list (pv 3)) (fun C s3 H3 fp => (pg_name (i := 0) (show (["edge", "end"] : List Str).Nodup by decide +kernel) rfl (Or.inl rfl) (Or.inr rfl))) (fun C s3 H3 fp => (pif_one (pt_val (pe_call Gund hr rfl mund kund bund .nil pass0 (pa_cons (pv 0) (pa_cons (pv 1) pa_nil)))))) (fun C s3 H3 fp => (pv 0))) pa_nil)))
        (pss_one (ps_expr (pe_bm PySem.F.plainAttrs_list PySem.F.slot_list_insert PySem.F.type_list_insert mt_insert (pv 3) (pa_cons (pv 5) (pa_cons (pv 4) pa_nil)))))) pss_nil)))
    (pss_one (ps_ret (pv 3))))))), ?_⟩
  have lz := row.len
  have l13 := ok.len
  have n12 := ok.n12
  refine ⟨(by show 2 ≤ sizeLine; decide), fun a0 h0 => ⟨(by show 2 ≤ sizeLine; decide), fun a1 h1 => ⟨(by show 2 ≤ sizeLine; decide), fun l hl => ?_⟩⟩⟩
  have s0 := same_new h0 (.tup [V.int 0, V.int 1])
  have s1 := same_new h1 (.tup [V.int 1, V.int 1])
  have s2 := same_new hl (.lst [V.ref a0, V.ref a1])
  have s02 := (s0.trans s1).trans s2
  have p0 := ((shp0 (H := upd H a0 (.tup [V.int 0, V.int 1])) upd_same).keep s1).keep s2
  have p1 := (shp1 (H := upd (upd H a0 (.tup [V.int 0, V.int 1])) a1 (.tup [V.int 1, V.int 1])) upd_same).keep s2
  refine ⟨_, rfl, x, _, 1, _, rfl, rfl, SqT.of (s02 _ _ hx), at1, t, rfl, ⟨_, SqT.of (s02 _ _ ht)⟩, ?_⟩
  have hln : H l = none := by
    cases e : H l with
    | none => rfl
    | some o => rw [s1 _ _ (s0 _ _ e)] at hl; cases hl
  refine for_tup (xs := zs) (fun i σ H' => Same H H' ∧ ∃ ws v1 v2 v3 v4, σ = [some (.ref x), some (.ref l), v1, v2, v3, v4] ∧ H' l = some (.lst ws) ∧ ShL H' (rimL (ps.take i)) ws) ⟨s02, _, none, none, none, none, rfl, upd_same, a0, _, rfl, p0, a1, _, rfl, p1, rfl⟩ ?_ ?_ ?_
  · rintro i σ H' hi ⟨sm, _⟩
    exact SqT.of (sm _ _ ht)
  · rintro i z σ H' hz ⟨sm, ws, v1, v2, v3, v4, rfl, hl', shw⟩
    have hi : i < ps.length := by rw [← lz]; exact (List.getElem?_eq_some_iff.mp hz).1
    have ep := List.getElem?_eq_getElem hi
    obtain ⟨d, la, ha, e1, e2, e3, e4⟩ := (row.keep sm).get ep
    rw [hz] at e1
    cases e1
    have lw := shw.len
    rw [rimL_len] at lw
    have lt : (ps.take i).length = i := by simp; omega
    refine ⟨_, rfl, .inl ⟨rfl, _, SqL.of hl'⟩, _, rfl, l, d, ws, _, rfl, rfl, hl', e2, Nat.le_trans (show _ ≤ 60 by simp; omega) (by decide), ?_⟩
    refine ⟨same_write sm hln, _, _, _, _, _, rfl, upd_same, ?_⟩
    rw [List.take_add_one, ep]
    show ShL _ (rimL (ps.take i ++ [ps[i]])) _
    rw [rimL_snoc]
    exact (shw.app (show ShL _ [_, _] [.ref la, .ref ha] from ⟨la, _, rfl, e3, ha, _, rfl, e4, rfl⟩)).write hl'
  rintro σ H1 ⟨sm1, ws, v1, v2, v3, v4, rfl, hl1, shw⟩
  rw [List.take_of_length_le (by omega)] at shw
  have lw := shw.len
  have lr := rimL_len ps
  refine ⟨Nat.zero_le _, fun m hm => ?_⟩
  have s3 := same_new hm (.lst [])
  have sm2 := sm1.trans s3
  have hmn : H m = none := by
    cases e : H m with
    | none => rfl
    | some o => rw [sm1 _ _ e] at hm; cases hm
  have nml : m ≠ l := fun e => by rw [e, hl1] at hm; cases hm
  refine ⟨_, rfl, l, rfl, ⟨_, SqL.of (s3 _ _ hl1)⟩, ?_⟩
  refine for_list (xs := ws) (fun i σ H' => Same H H' ∧ ∃ us v1 v3 v4, σ = [some (.ref x), some (.ref l), v1, some (.ref m), v3, v4] ∧ H' l = some (.lst ws) ∧ ShL H' (rimL ps) ws ∧ H' m = some (.lst us) ∧ ShL H' (edg ((rimL ps).take i)) us) ⟨sm2, [], v1, v3, v4, rfl, s3 _ _ hl1, shw.keep s3, upd_same, rfl⟩ ?_ ?_ ?_
  · rintro i σ H' hi ⟨sm, us, u1, u3, u4, rfl, hl', _⟩
    exact SqL.of hl'
  · rintro i z σ H' hz ⟨sm, us, u1, u3, u4, rfl, hl', shl', hm', shu⟩
    have hi : i < (rimL ps).length := by rw [← lw]; exact (List.getElem?_eq_some_iff.mp hz).1
    have ep := List.getElem?_eq_getElem hi
    obtain ⟨b, e1, sb⟩ := shl'.get ep
    rw [hz] at e1
    cases e1
    generalize (rimL ps)[i] = r at *
    have tk : (rimL ps).take (i + 1) = (rimL ps).take i ++ [r] := by rw [List.take_add_one, ep]; rfl
    have lu := shu.len
    have l40 : us.length ≤ 40 := by
      rw [lu]
      exact Nat.le_trans (edg_len _) (by simp; omega)
    obtain ⟨inc, _⟩ := edg_ok ((rimL ps).take i)
    rw [tk, edg_snoc]
    generalize edg ((rimL ps).take i) = acc at *
    refine ⟨_, rfl, _, rfl, m, us, _, b, (r.num, (r.den : Int)), rfl, rfl, SqL.of hm', prs_of shu, sb.ob, _, rfl, ?_⟩
    rw [any_mem]
    by_cases c : r ∈ acc
    · rw [decide_eq_true c]
      refine iteF ⟨sm, us, _, _, _, rfl, hl', shl', hm', ?_⟩
      unfold addE
      rw [if_pos c]
      exact shu
    · rw [decide_eq_false c]
      refine iteT ?_
      refine ⟨_, rfl, m, rfl, ⟨_, SqL.of hm'⟩, fun D hD => ?_⟩
      refine comp_listC acc (fun h => decide (h < r)) (fun h u => ∃ a, u = .ref a ∧ Shp H' a h) hD (SqL.of hm') (by omega) (Nat.le_of_lt (lt40 l40)) ?_ ?_ ?_ ?_
      · intro j h e
        obtain ⟨a, f1, f2⟩ := shu.get e
        exact ⟨_, f1, a, rfl, f2⟩
      · rintro h u H2 k ⟨a, rfl, sa⟩ s4 hk
        exact ⟨_, rfl, _, rfl, a, b, _, _, rfl, (sa.keep s4).fr, (sb.keep s4).fr, _, rfl, hk H2 (Same.refl H2)⟩
      · rintro h u H2 k ⟨a, rfl, sa⟩ s4 hk
        exact ⟨_, rfl, hk _ _ (Same.refl H2)⟩
      intro H2 ys s4 hD2 hly
      rw [lower_cnt inc.up] at hly
      have hm2 := s4 _ _ hm'
      have hl2 := s4 _ _ hl'
      have shu2 := shu.keep s4
      have sb2 := sb.keep s4
      refine ⟨D, ys, rfl, .inl (SqL.of hD2), ?_⟩
      rw [hly]
      have le := lower_le r acc
      refine ⟨_, rfl, .inl ⟨rfl, _, SqL.of hm2⟩, _, rfl, _, rfl, m, us, (lower r acc : Int), .ref b, rfl, rfl, hm2, by omega, by omega, lt40 l40, ?_⟩
      have ek : ((lower r acc : Int)).toNat = lower r acc := rfl
      rw [ek]
      refine ⟨same_write (sm.trans s4) hmn, _, _, _, _, rfl, by rw [upd_ne (Ne.symm nml)]; exact hl2, (shl'.keep s4).write hm2, upd_same, ?_⟩
      unfold addE
      rw [if_neg c]
      unfold insR
      have z := ((shu2.take (lower r acc)).app (show ShL _ [r] [.ref b] from ⟨b, [], rfl, sb2, rfl⟩)).app (shu2.drop (lower r acc))
      have z' := z.write (l := m) (zs := us) hm2 (ws := us.take (lower r acc) ++ .ref b :: us.drop (lower r acc))
      rw [List.append_assoc, List.append_assoc] at z'
      exact z'
  · rintro σ H' ⟨sm, us, u1, u3, u4, rfl, hl', shl', hm', shu⟩
    rw [lw, List.take_length] at shu
    exact ⟨_, rfl, q m H' us hmn sm hm' shu⟩
theorem none_back {H H' : Hp} {a : Addr} (s : Same H H') (h : H' a = none) : H a = none := by
  cases e : H a with
  | none => rfl
  | some o => rw [s _ _ e] at h; cases h
theorem cut_tail {ws : List V} (h : 1 ≤ ws.length) : cutV ws (some 1) none = ws.drop 1 := by
  have h1 : HT.sIx ws.length 0 (some 1) = 1 := by
    rw [show (1 : Int) = ((1 : Nat) : Int) from rfl, HT.sIx_nat]
    omega
  unfold cutV
  rw [h1, HT.sIx_none, List.take_of_length_le (by simp)]
noncomputable abbrev Pc := Rat × Rat × Option (Nat × Nat)
noncomputable def PcL (H : Hp) : List Pc → List V → Prop
  | [], xs => xs = []
  | p :: ps, xs => ∃ t a b v ys, xs = .ref t :: ys ∧ H t = some (.tup [.ref a, .ref b, v]) ∧ Shp H a p.1 ∧ Shp H b p.2.1 ∧ RunV H p.2.2 v ∧ PcL H ps ys
theorem PcL.keep {H H' : Hp} (s : Same H H') : ∀ {ps : List Pc} {xs : List V}, PcL H ps xs → PcL H' ps xs
  | [], _, h => h
  | _ :: _, _, ⟨t, a, b, v, ys, e, h0, h1, h2, h3, h4⟩ => ⟨t, a, b, v, ys, e, s _ _ h0, h1.keep s, h2.keep s, h3.keep s, h4.keep s⟩
theorem RunV.write {H : Hp} {l : Addr} {zs ws : List V} (hl : H l = some (.lst zs)) : ∀ {r : Option (Nat × Nat)} {v : V}, RunV H r v → RunV (upd H l (.lst ws)) r v
  | none, _, h => h
  | some _, _, ⟨t, e, h⟩ => ⟨t, e, by rw [upd_ne (ne_of h hl (by intro z; cases z))]; exact h⟩
theorem PcL.write {H : Hp} {l : Addr} {zs ws : List V} (hl : H l = some (.lst zs)) : ∀ {ps : List Pc} {xs : List V}, PcL H ps xs → PcL (upd H l (.lst ws)) ps xs
  | [], _, h => h
  | _ :: _, _, ⟨t, a, b, v, ys, e, h0, h1, h2, h3, h4⟩ => ⟨t, a, b, v, ys, e, by rw [upd_ne (ne_of h0 hl (by intro z; cases z))]; exact h0, h1.write hl, h2.write hl, h3.write hl, h4.write hl⟩
theorem PcL.len {H : Hp} : ∀ {ps : List Pc} {xs : List V}, PcL H ps xs → xs.length = ps.length
  | [], _, h => by rw [show _ = [] from h]; rfl
  | _ :: _, _, ⟨t, a, b, v, ys, e, h0, h1, h2, h3, h4⟩ => by rw [e, List.length_cons, List.length_cons, h4.len]
theorem PcL.get {H : Hp} : ∀ {ps : List Pc} {xs : List V} {i : Nat} {p : Pc}, PcL H ps xs → ps[i]? = some p → ∃ t a b v, xs[i]? = some (.ref t) ∧ H t = some (.tup [.ref a, .ref b, v]) ∧ Shp H a p.1 ∧ Shp H b p.2.1 ∧ RunV H p.2.2 v
  | _ :: _, _, 0, p, ⟨t, a, b, v, ys, e, h0, h1, h2, h3, h4⟩, q => by
    rw [List.getElem?_cons_zero] at q; cases q
    exact ⟨t, a, b, v, by rw [e]; rfl, h0, h1, h2, h3⟩
  | _ :: _, _, i + 1, p, ⟨t, a, b, v, ys, e, h0, h1, h2, h3, h4⟩, q => by
    rw [List.getElem?_cons_succ] at q
    obtain ⟨t', a', b', v', f, g⟩ := h4.get q
    exact ⟨t', a', b', v', by rw [e, List.getElem?_cons_succ]; exact f, g⟩
theorem PcL.app {H : Hp} : ∀ {ps qs : List Pc} {xs ys : List V}, PcL H ps xs → PcL H qs ys → PcL H (ps ++ qs) (xs ++ ys)
  | [], _, _, _, h, k => by rw [show _ = [] from h]; exact k
  | _ :: _, _, _, _, ⟨t, a, b, v, zs, e, h0, h1, h2, h3, h4⟩, k => by rw [e]; exact ⟨t, a, b, v, _, rfl, h0, h1, h2, h3, h4.app k⟩
noncomputable def pieceL (es : List Rat) (ps : List (Rat × Rat)) : List Pc := (List.range (es.length - 1)).map fun k => (es.getD k 0, es.getD (k + 1) 0, runOf ps (es.getD k 0) (es.getD (k + 1) 0))
theorem pieceL_take (es : List Rat) (ps : List (Rat × Rat)) {i : Nat} (h : i < es.length - 1) : (pieceL es ps).take (i + 1) = (pieceL es ps).take i ++ [(es.getD i 0, es.getD (i + 1) 0, runOf ps (es.getD i 0) (es.getD (i + 1) 0))] := by
  have : (pieceL es ps)[i]? = some (es.getD i 0, es.getD (i + 1) 0, runOf ps (es.getD i 0) (es.getD (i + 1) 0)) := by
    unfold pieceL
    rw [List.getElem?_map, List.getElem?_range h] <;> rfl
  rw [List.take_add_one, this] <;> rfl
theorem pieceL_len (es : List Rat) (ps : List (Rat × Rat)) : (pieceL es ps).length = es.length - 1 := by simp [pieceL]
theorem edg_two (ps : List (Rat × Rat)) : 2 ≤ (edg (rimL ps)).length := by
  have m0 : (0 : Rat) ∈ edg (rimL ps) := ((edg_ok _).2 0).mpr (List.mem_cons_self ..)
  have m1 : (1 : Rat) ∈ edg (rimL ps) := ((edg_ok _).2 1).mpr (List.mem_cons_of_mem _ (List.mem_cons_self ..))
  match he : edg (rimL ps) with
  | [] => rw [he] at m0; cases m0
  | [z] =>
    rw [he] at m0 m1
    have e0 := List.mem_singleton.mp m0
    have e1 := List.mem_singleton.mp m1
    exact absurd (e0.trans e1.symm) (by decide)
  | _ :: _ :: _ => simp
noncomputable def spPieces : Sp := fun vs H Q _ => ∃ (x : Addr) (n : Nat) (ps : List (Rat × Rat)), vs = [.ref x] ∧ RuleAt H x n ps ∧ ∀ l H' ws, H l = none → Same H H' → H' l = some (.lst ws) → PcL H' (pieceL (edg (rimL ps)) ps) ws → Q (.ref l) H'
theorem sc_pieces : FnScope ["rule", "rising"] ["rule"] (defScope s_pieces) := ⟨rfl, rfl, rfl, by decide +kernel, rfl, by decide +kernel, by decide +kernel⟩
theorem ok_pieces {f : Addr} {fd : FuncData} (F : Fun K "pieces" "pieces" s_pieces f fd) (T : Txt mg) {fedges : Addr} {dedges : FuncData} (Gedges : FnOk P w K mg base CX0 2 fedges dedges ["rule"] spEdges) (bedges : Binds K dedges ["rule"] []) (kedges : PySem.W.keepIn K (.ref fedges) = true) (medges : mg "edges" = some (.ref fedges)) {frov : Addr} {drov : FuncData} (Grov : FnOk P w K mg base CX0 2 frov drov ["rule", "a", "b"] spRov) (brov : Binds K drov ["rule", "a", "b"] []) (krov : PySem.W.keepIn K (.ref frov) = true) (mrov : mg "run_over" = some (.ref frov)) : FnOk P w K mg base CX0 3 f fd ["rule"] spPieces := by
  refine F.ok sc_pieces (fun vs H Q E h => ?_) (fun cdv A outer s H vs Q E hr h => ?_)
  · obtain ⟨x, n, ps, rfl, _⟩ := h
    rfl
  obtain ⟨x, n, ps, rfl, hx, q⟩ := h
  refine ⟨_, (pss_cons (ps_set (i := 1) sc_pieces.nd rfl (Or.inl rfl) (pe_call Gedges hr rfl medges kedges bedges .nil pass0 (pa_cons (pv 0) pa_nil)))
    (pss_one (ps_ret (pe_compG (xs := ["a", "b"]) (ts := [("rule", 0)]) rfl ⟨rfl, sub1 rfl, rfl, rfl, rfl, by decide +kernel, rfl, rfl⟩ (pi_zip rfl T.zip (pa_cons (pv 1) (pa_cons (pe_slice sl_list (pv 1) (po_some pe_int) po_none) pa_nil))) (fun C s3 H3 fp => (pg_tupC (n := 2) rfl (pgs_cons (pg_name (i := 0) (show (["a", "b", "rule"] : List Str).Nodup by decide +kernel) rfl (Or.inl rfl) (Or.inr rfl)) (pgs_cons (pg_name (i := 1) (show (["a", "b", "rule"] : List Str).Nodup by decide +kernel) rfl (Or.inl rfl) (Or.inr rfl)) pgs_nil)))) (fun C s3 H3 fp => pif_nil) (fun C s3 H3 fp => (pe_tup (pa_cons (pv 0) (pa_cons (pv 1) (pa_cons (pe_call Grov hr rfl mrov krov brov .nil pass0 (pa_cons (pv 2) (pa_cons (pv 0) (pa_cons (pv 1) pa_nil)))) pa_nil))))))))), ?_⟩
  refine ⟨_, rfl, x, n, ps, rfl, hx, fun l H1 ws _ s1 hl shw => ?_⟩
  have lw := shw.len
  have le := edg_len (rimL ps)
  have lr := rimL_len ps
  have l13 := hx.ok.len
  have n12 := hx.ok.n12
  have h2 : 2 ≤ (edg (rimL ps)).length := edg_two ps
  generalize hE : edg (rimL ps) = es at *
  refine ⟨_, rfl, _, rfl, _, rfl, l, ws, rfl, SqL.of hl, fun m hm => ?_⟩
  have s2 := same_new hm (.lst (cutV ws (some 1) none))
  have ec : cutV ws (some 1) none = ws.drop 1 := cut_tail (by omega)
  rw [ec] at s2 ⊢
  refine ⟨l, m, rfl, ⟨_, SqL.of (s2 _ _ hl)⟩, ⟨_, SqL.of upd_same⟩, fun D hD => ?_⟩
  have s12 := s1.trans s2
  have hx2 := hx.keep s12
  have shw2 := shw.keep s2
  refine comp_zipR (n := es.length - 1) (fun i zs H2 => PcL H2 ((pieceL es ps).take i) zs) hD (SqL.of (s2 _ _ hl)) (SqL.of upd_same) (by omega) (by simp; omega) (.inr (by simp; omega)) (Nat.le_of_lt (lt40 (by omega))) rfl ?_ ?_
  · rintro i u v zs H2 H3 k hi hu hv sm sm3 e r hk
    obtain ⟨a, ea, sa⟩ := (shw2.keep sm).get (show es[i]? = some (es.getD i 0) by rw [List.getD_eq_getElem?_getD, List.getElem?_eq_getElem (show i < es.length by omega)] <;> rfl)
    obtain ⟨b, eb, sb⟩ := (shw2.keep sm).get (show es[i + 1]? = some (es.getD (i + 1) 0) by rw [List.getD_eq_getElem?_getD, List.getElem?_eq_getElem (show i + 1 < es.length by omega)] <;> rfl)
    rw [hu] at ea
    cases ea
    rw [List.getElem?_drop, Nat.add_comm, eb] at hv
    cases hv
    have sa3 := sa.keep sm3
    have sb3 := sb.keep sm3
    refine ⟨_, rfl, _, rfl, _, rfl, _, rfl, _, rfl, x, n, ps, a, b, _, _, rfl, (hx2.keep sm).keep sm3, sa3, sb3, fun w H4 s4 rv => ?_⟩
    refine ⟨(by show 3 ≤ sizeLine; decide), fun t ht => ?_⟩
    have s5 := same_new ht (.tup [V.ref a, V.ref b, w])
    refine hk _ _ (s4.trans s5) ?_
    rw [pieceL_take es ps hi]
    exact (((r.keep sm3).keep (s4.trans s5)).app (show PcL _ [_] [.ref t] from ⟨t, a, b, w, [], rfl, upd_same, (sa3.keep s4).keep s5, (sb3.keep s4).keep s5, rv.keep s5, rfl⟩)).write ((s4.trans s5) _ _ (sm3 _ _ e))
  · rintro zs H2 sm e hz r
    rw [List.take_of_length_le (by rw [pieceL_len]; exact Nat.le_refl _)] at r
    exact q D H2 zs (none_back s12 hD) (s12.trans sm) e r
theorem kit_lt {K : PySem.W.Frag} (t : Th) : PySem.W.kitAny K (tyTh t) (["list", "tuple"].map Value.type) = some (isLstT t || isTupT t) := by cases t <;> rfl
noncomputable def spWpG : Sp := fun vs H Q _ => ∃ (a : Addr) (p q : Int), vs = [.ref a] ∧ H a = some (.tup [.int p, .int q]) ∧ Q (.bl true) H
theorem sc_wpair : FnScope ["thing"] ["thing"] (defScope s_wpair) := ⟨rfl, rfl, rfl, by decide +kernel, rfl, by decide +kernel, by decide +kernel⟩
theorem ok_wpair {f : Addr} {fd : FuncData} (F : Fun K "is_whole_pair" "is_whole_pair" s_wpair f fd) (T : Txt mg) {fwhole : Addr} {dwhole : FuncData} (Gwhole : FnOk P w K mg base CX0 1 fwhole dwhole ["thing"] spWhole) (bwhole : Binds K dwhole ["thing"] []) (kwhole : PySem.W.keepIn K (.ref fwhole) = true) (mwhole : mg "is_whole" = some (.ref fwhole)) : FnOk P w K mg base CX0 2 f fd ["thing"] spWpG := by
  refine F.ok sc_wpair (fun vs H Q E h => ?_) (fun cdv A outer s H vs Q E hr h => ?_)
  · obtain ⟨a, p, q, rfl, _⟩ := h
    rfl
  obtain ⟨a, p, r, rfl, h, q⟩ := h
  refine ⟨_, (pss_one (ps_ret (pe_and (pe_callB call_isinstD rfl T.isinstance boot_isinstance (pa_cons (pv 0) (pa_cons (pe_bltn (v := .ty "tuple") rfl T.tuple boot_tuple rfl) pa_nil))) (pe_and (pe_cmpR op_eq (pe_callB call_len_seq rfl T.len boot_len (pa_cons (pv 0) pa_nil)) pe_int (nomark _)) (pe_and (pe_call Gwhole hr rfl mwhole kwhole bwhole .nil pass0 (pa_cons (pe_ix ix_tup (pv 0) pe_int (fun _ _ => rfl)) pa_nil)) (pe_one (pe_call Gwhole hr rfl mwhole kwhole bwhole .nil pass0 (pa_cons (pe_ix ix_tup (pv 0) pe_int (fun _ _ => rfl)) pa_nil)))))))), ?_⟩
  refine ⟨_, rfl, .ref a, .tup [.int p, .int r], _, _, rfl, den_p h, kit_tuple _, _, rfl, iteT ?_⟩
  refine ⟨_, rfl, a, _, rfl, .inr (SqT.of h), rfl, _, rfl, iteT ?_⟩
  refine ⟨_, rfl, a, _, 0, _, rfl, rfl, SqT.of h, at0, _, .int p, rfl, rfl, _, rfl, iteT ?_⟩
  exact ⟨_, rfl, a, _, 1, _, rfl, rfl, SqT.of h, at1, _, .int r, rfl, rfl, q⟩
noncomputable def spIsG : Sp := fun vs H Q _ => ∃ (a : Addr) (r : Rat), vs = [.ref a] ∧ Shp H a r ∧ Q (.bl true) H
theorem sc_share : FnScope ["thing", "top", "bottom"] ["thing"] (defScope s_share) := ⟨rfl, rfl, rfl, by decide +kernel, rfl, by decide +kernel, by decide +kernel⟩
theorem ok_share {f : Addr} {fd : FuncData} (F : Fun K "is_share" "is_share" s_share f fd) (T : Txt mg) {fwpair : Addr} {dwpair : FuncData} (Gwpair : FnOk P w K mg base CX0 2 fwpair dwpair ["thing"] spWpG) (bwpair : Binds K dwpair ["thing"] []) (kwpair : PySem.W.keepIn K (.ref fwpair) = true) (mwpair : mg "is_whole_pair" = some (.ref fwpair)) {fcd : Addr} {dcd : FuncData} (Gcd : FnOk P w K mg base CX0 2 fcd dcd ["one", "other"] spCd) (bcd : Binds K dcd ["one", "other"] []) (kcd : PySem.W.keepIn K (.ref fcd) = true) (mcd : mg "common_divisor" = some (.ref fcd)) : FnOk P w K mg base CX0 3 f fd ["thing"] spIsG := by
  refine F.ok sc_share (fun vs H Q E h => ?_) (fun cdv A outer s H vs Q E hr h => ?_)
  · obtain ⟨a, r, rfl, _⟩ := h
    rfl
  obtain ⟨a, r, rfl, sa, q⟩ := h
  refine ⟨_, (pss_cons (ps_if (pt_not (pt_val (pe_call Gwpair hr rfl mwpair kwpair bwpair .nil pass0 (pa_cons (pv 0) pa_nil)))) (pss_one (ps_ret pe_bl)) pss_nil)
    (pss_cons (ps_set (i := 1) sc_share.nd rfl (Or.inl rfl) (pe_ix ix_tup (pv 0) pe_int (fun _ _ => rfl)))
    (pss_cons (ps_set (i := 2) sc_share.nd rfl (Or.inl rfl) (pe_ix ix_tup (pv 0) pe_int (fun _ _ => rfl)))
    (pss_one (ps_ret (pe_and (pe_cmpR op_ge (pv 2) pe_int (nomark _)) (pe_and (pe_chain op_le op_le pe_int (pv 1) (pv 2)) (pe_one (pe_cmpR op_eq (pe_call Gcd hr rfl mcd kcd bcd .nil pass0 (pa_cons (pv 1) (pa_cons (pv 2) pa_nil))) pe_int (nomark _)))))))))), ?_⟩
  have rd := rden r
  have r1 := sa.num
  refine ⟨_, rfl, a, _, _, rfl, sa.ob, _, rfl, iteF ?_⟩
  refine ⟨_, rfl, a, _, 0, _, rfl, rfl, SqT.of sa.ob, at0, ?_⟩
  refine ⟨_, rfl, a, _, 1, _, rfl, rfl, SqT.of sa.ob, at1, ?_⟩
  refine ⟨_, rfl, _, _, rfl, rfl, _, rfl, ?_⟩
  refine ite2 (fun _ => ?_) (fun c => absurd (show (1 : Int) ≤ (r.den : Int) by omega) (ofD c))
  refine ⟨_, rfl, _, _, rfl, rfl, _, rfl, ?_⟩
  refine ite2 (fun _ => ?_) (fun c => absurd (show (0 : Int) ≤ r.num by omega) (ofD c))
  refine ⟨_, rfl, _, _, rfl, rfl, _, rfl, ?_⟩
  refine ite2 (fun _ => ?_) (fun c => absurd (show r.num ≤ (r.den : Int) by omega) (ofD c))
  refine ⟨_, rfl, _, rfl, r.num, r.den, rfl, r1.1, by omega, rfl, ?_⟩
  rw [rgcd]
  exact eqT rfl q
noncomputable def spRowOf : Sp := fun vs H Q _ => ∃ (a : Addr) (c : Int) (t : Th) (xs : List V), vs = [.ref a, .int c] ∧ (H a = some (.lst xs) ∨ H a = some (.tup xs)) ∧ Den H t (.ref a) ∧ (isLstT t || isTupT t) = true ∧ (xs.length : Int) = c ∧ ∀ H', Same H H' → Q (.bl true) H'
theorem sc_rowof : FnScope ["thing", "count"] ["thing", "count"] (defScope s_rowof) := ⟨rfl, rfl, rfl, by decide +kernel, rfl, by decide +kernel, by decide +kernel⟩
theorem ok_rowof {f : Addr} {fd : FuncData} (F : Fun K "is_row_of" "is_row_of" s_rowof f fd) (T : Txt mg) : FnOk P w K mg base CX0 1 f fd ["thing", "count"] spRowOf := by
  refine F.ok sc_rowof (fun vs H Q E h => ?_) (fun cdv A outer s H vs Q E hr h => ?_)
  · obtain ⟨a, c, t, xs, rfl, _⟩ := h
    rfl
  obtain ⟨a, c, t, xs, rfl, h, d, ht, hl, q⟩ := h
  refine ⟨_, (pss_one (ps_ret (pe_and (pe_callB call_isinstT rfl T.isinstance boot_isinstance (pa_cons (pv 0) (pa_cons (pe_tup (pa_cons (pe_bltn (v := .ty "list") rfl T.list boot_list rfl) (pa_cons (pe_bltn (v := .ty "tuple") rfl T.tuple boot_tuple rfl) pa_nil))) pa_nil))) (pe_one (pe_cmpR op_eq (pe_callB call_len_seq rfl T.len boot_len (pa_cons (pv 0) pa_nil)) (pv 1) (nomark _)))))), ?_⟩
  refine ⟨_, rfl, (by show 2 ≤ sizeLine; decide), fun p hp => ?_⟩
  have s1 := same_new hp (.tup [V.ty "list", V.ty "tuple"])
  have kt := kit_lt (K := K) t
  rw [ht] at kt
  refine ⟨.ref a, p, t, ["list", "tuple"], true, rfl, upd_same, d.keep s1, kt, _, rfl, iteT ?_⟩
  refine ⟨_, rfl, a, xs, rfl, ?_, _, rfl, rfl, ?_⟩
  · rcases h with h | h
    · exact .inl (SqL.of (s1 _ _ h))
    · exact .inr (SqT.of (s1 _ _ h))
  · exact eqT (congrArg V.int hl) (q _ s1)
noncomputable def frT2 (r : Rat) : Th := .tup [.int r.num, .int (r.den : Int)]
noncomputable def stT (p : Rat × Rat) : Th := .tup [frT2 p.1, frT2 p.2]
theorem rowp_den {H : Hp} : ∀ {ps : List (Rat × Rat)} {xs : List V}, RowP H ps xs → Dens H (ps.map stT) xs
  | [], _, h => h
  | _ :: _, _, ⟨a, la, ha, ys, e, h0, h1, h2, h3⟩ => ⟨_, ys, e, den2 h0 (den_p h1.ob) (den_p h2.ob), rowp_den h3⟩
noncomputable def spStOf : Sp := fun vs H Q _ => ∃ (a la ha : Addr) (l h : Rat), vs = [.ref a] ∧ H a = some (.tup [.ref la, .ref ha]) ∧ Shp H la l ∧ Shp H ha h ∧ l ≤ h ∧ ∀ b H', Same H H' → H' b = some (.tup [.ref la, .ref ha]) → Q (.ref b) H'
theorem sc_stof : FnScope ["thing", "low", "high"] ["thing"] (defScope s_stof) := ⟨rfl, rfl, rfl, by decide +kernel, rfl, by decide +kernel, by decide +kernel⟩
theorem ok_stof {f : Addr} {fd : FuncData} (F : Fun K "stretch_of" "stretch_of" s_stof f fd) (T : Txt mg) {frowof : Addr} {drowof : FuncData} (Growof : FnOk P w K mg base CX0 3 frowof drowof ["thing", "count"] spRowOf) (browof : Binds K drowof ["thing", "count"] []) (krowof : PySem.W.keepIn K (.ref frowof) = true) (mrowof : mg "is_row_of" = some (.ref frowof)) {fshare : Addr} {dshare : FuncData} (Gshare : FnOk P w K mg base CX0 3 fshare dshare ["thing"] spIsG) (bshare : Binds K dshare ["thing"] []) (kshare : PySem.W.keepIn K (.ref fshare) = true) (mshare : mg "is_share" = some (.ref fshare)) {fund : Addr} {dund : FuncData} (Gund : FnOk P w K mg base CX0 3 fund dund ["one", "other"] spUnd) (bund : Binds K dund ["one", "other"] []) (kund : PySem.W.keepIn K (.ref fund) = true) (mund : mg "under" = some (.ref fund)) : FnOk P w K mg base CX0 4 f fd ["thing"] spStOf := by
  refine F.ok sc_stof (fun vs H Q E h => ?_) (fun cdv A outer s H vs Q E hr h => ?_)
  · obtain ⟨a, la, ha, l, h, rfl, _⟩ := h
    rfl
  obtain ⟨a, la, ha, l, h, rfl, h0, s1, s2, le, q⟩ := h
  refine ⟨_, (pss_cons (ps_if (pt_not (pt_val (pe_call Growof hr rfl mrowof krowof browof .nil pass0 (pa_cons (pv 0) (pa_cons pe_int pa_nil))))) (pss_one (ps_dead)) pss_nil)
    (pss_cons (ps_set (i := 1) sc_stof.nd rfl (Or.inl rfl) (pe_ix ix_tup (pv 0) pe_int (fun _ _ => rfl)))
    (pss_cons (ps_set (i := 2) sc_stof.nd rfl (Or.inl rfl) (pe_ix ix_tup (pv 0) pe_int (fun _ _ => rfl)))
    (pss_cons (ps_if (PW.pt (pw_or (pt_not (pt_val (pe_call Gshare hr rfl mshare kshare bshare .nil pass0 (pa_cons (pv 1) pa_nil)))) (pw_or1 (pt_not (pt_val (pe_call Gshare hr rfl mshare kshare bshare .nil pass0 (pa_cons (pv 2) pa_nil))))))) (pss_one (ps_dead)) pss_nil)
    (pss_cons (ps_if (pt_val (pe_call Gund hr rfl mund kund bund .nil pass0 (pa_cons (pv 2) (pa_cons (pv 1) pa_nil)))) (pss_one (ps_dead)) pss_nil)
    (pss_one (ps_ret (pe_tup (pa_cons (pv 1) (pa_cons (pv 2) pa_nil)))))))))), ?_⟩
  refine ⟨_, rfl, a, 2, _, _, rfl, .inr h0, den2 h0 (den_p s1.ob) (den_p s2.ob), rfl, rfl, fun H1 sm => ⟨_, rfl, iteF ?_⟩⟩
  have h1 := sm _ _ h0
  have t1 := s1.keep sm
  have t2 := s2.keep sm
  refine ⟨_, rfl, a, _, 0, _, rfl, rfl, SqT.of h1, at0, ?_⟩
  refine ⟨_, rfl, a, _, 1, _, rfl, rfl, SqT.of h1, at1, ?_⟩
  refine ⟨_, rfl, la, _, rfl, t1, _, rfl, iteF ?_⟩
  refine ⟨_, rfl, ha, _, rfl, t2, _, rfl, iteF ?_⟩
  refine ⟨_, rfl, _, rfl, ha, la, _, _, rfl, t2.fr, t1.fr, _, rfl, ?_⟩
  refine ite2 (fun c => absurd (of_decide_eq_true c) (by grind)) (fun _ => ?_)
  exact ⟨_, rfl, _, rfl, (by show 2 ≤ sizeLine; decide), fun b hb => q b _ (sm.trans (same_new hb _)) upd_same⟩
noncomputable def spRuleOf : Sp := fun vs H Q _ => ∃ (n : Nat) (a : Addr) (zs : List V) (ps : List (Rat × Rat)), vs = [.int n, .ref a] ∧ H a = some (.lst zs) ∧ RowP H ps zs ∧ IsRule n ps ∧ ∀ x H', Same H H' → RuleAt H' x n ps → Q (.ref x) H'
theorem up_next {l : List Rat} (h : Up l) {i : Nat} {x y : Rat} (e1 : l[i]? = some x) (e2 : l[i + 1]? = some y) : ¬ y < x := by
  have := h.at (show i ≤ i + 1 by omega) e1 e2
  grind
theorem sc_ruleof : FnScope ["n", "stretches", "kept", "ahead", "behind"] ["n", "stretches"] (defScope s_ruleof) := ⟨rfl, rfl, rfl, by decide +kernel, rfl, by decide +kernel, by decide +kernel⟩
theorem ok_ruleof {f : Addr} {fd : FuncData} (F : Fun K "rule_of" "rule_of" s_ruleof f fd) (T : Txt mg) {fwhole : Addr} {dwhole : FuncData} (Gwhole : FnOk P w K mg base CX0 4 fwhole dwhole ["thing"] spWhole) (bwhole : Binds K dwhole ["thing"] []) (kwhole : PySem.W.keepIn K (.ref fwhole) = true) (mwhole : mg "is_whole" = some (.ref fwhole)) {frowof : Addr} {drowof : FuncData} (Growof : FnOk P w K mg base CX0 4 frowof drowof ["thing", "count"] spRowOf) (browof : Binds K drowof ["thing", "count"] []) (krowof : PySem.W.keepIn K (.ref frowof) = true) (mrowof : mg "is_row_of" = some (.ref frowof)) {fstof : Addr} {dstof : FuncData} (Gstof : FnOk P w K mg base CX0 4 fstof dstof ["thing"] spStOf) (bstof : Binds K dstof ["thing"] []) (kstof : PySem.W.keepIn K (.ref fstof) = true) (mstof : mg "stretch_of" = some (.ref fstof)) {fund : Addr} {dund : FuncData} (Gund : FnOk P w K mg base CX0 4 fund dund ["one", "other"] spUnd) (bund : Binds K dund ["one", "other"] []) (kund : PySem.W.keepIn K (.ref fund) = true) (mund : mg "under" = some (.ref fund)) : FnOk P w K mg base CX0 5 f fd ["n", "stretches"] spRuleOf := by
  refine F.ok sc_ruleof (fun vs H Q E h => ?_) (fun cdv A outer s H vs Q E hr h => ?_)
  · obtain ⟨n, a, zs, ps, rfl, _⟩ := h
    rfl
  obtain ⟨n, a, zs, ps, rfl, ha, row, ok, q⟩ := h
  refine ⟨_, (pss_cons (ps_if (PW.pt (pw_or (pt_not (pt_val (pe_call Gwhole hr rfl mwhole kwhole bwhole .nil pass0 (pa_cons (pv 0) pa_nil)))) (pw_or (pt_cmpR op_lt (pv 0) pe_int (nomark _)) (pw_or1 (pt_cmpR op_gt (pv 0) pe_int (nomark _)))))) (pss_one (ps_dead)) pss_nil)
    (pss_cons (ps_if (pt_not (pt_val (pe_call Growof hr rfl mrowof krowof browof .nil pass0 (pa_cons (pv 1) (pa_cons (pe_op op_add (pv 0) pe_int) pa_nil))))) (pss_one (ps_dead)) pss_nil)
    (pss_cons (ps_set (i := 2) sc_ruleof.nd rfl (Or.inl rfl) (pe_callTy call_tuple_of rfl T.tuple boot_tuple (pa_cons (pe_comp (ts := []) rfl ⟨rfl, sub0, rfl, rfl, rfl, rfl, by decide +kernel, rfl, rfl⟩ (pi_list (pv 1)) (fun C s3 H3 fp => (pe_call Gstof hr rfl mstof kstof bstof .nil pass0 (pa_cons (pv 0) pa_nil)))) pa_nil)))
    (pss_cons (ps_for PassesOwn.never rfl (pi_zipT rfl T.zip (pa_cons (pv 2) (pa_cons (pe_slice sl_tup (pv 2) (po_some pe_int) po_none) pa_nil))) (pg_tup rfl (pgs_cons (pg_name (i := 3) sc_ruleof.nd rfl (Or.inl rfl)) (pgs_cons (pg_name (i := 4) sc_ruleof.nd rfl (Or.inl rfl)) pgs_nil))) (pss_one (ps_if (PW.pt (pw_or (pt_val (pe_call Gund hr rfl mund kund bund .nil pass0 (pa_cons (pe_ix ix_tup (pv 4) pe_int (fun _ _ => rfl)) (pa_cons (pe_ix ix_tup (pv 3) pe_int (fun _ _ => rfl)) pa_nil)))) (pw_or1 (pt_val (pe_call Gund hr rfl mund kund bund .nil pass0 (pa_cons (pe_ix ix_tup (pv 4) pe_int (fun _ _ => rfl)) (pa_cons (pe_ix ix_tup (pv 3) pe_int (fun _ _ => rfl)) pa_nil))))))) (pss_one (ps_dead)) pss_nil)))
    (pss_one (ps_ret (pe_tup (pa_cons (pv 0) (pa_cons (pv 2) pa_nil))))))))), ?_⟩
  have n1 := ok.n1
  have n12 := ok.n12
  have l13 := ok.len
  have lz := row.len
  refine ⟨_, rfl, _, .int n, rfl, rfl, _, rfl, iteF ?_⟩
  refine ⟨_, rfl, _, _, rfl, rfl, _, rfl, ?_⟩
  refine ite2 (fun c => absurd (of_decide_eq_true c) (show ¬ ((n : Int) < 1) by omega)) (fun _ => ?_)
  refine ⟨_, rfl, _, _, rfl, rfl, _, rfl, ?_⟩
  refine ite2 (fun c => absurd (of_decide_eq_true c) (show ¬ ((12 : Int) < (n : Int)) by omega)) (fun _ => ?_)
  refine ⟨_, rfl, _, rfl, _, _, rfl, rfl, a, _, .lst (ps.map stT), zs, rfl, .inl ha, ⟨a, _, rfl, ha, rowp_den row⟩, rfl, by omega, fun H1 s1 => ⟨_, rfl, iteF ?_⟩⟩
  have ha1 := s1 _ _ ha
  have row1 := row.keep s1
  refine ⟨_, rfl, a, rfl, ⟨_, SqL.of ha1⟩, fun D hD => ?_⟩
  refine comp_listR (fun i ws H2 => RowP H2 (ps.take i) ws) hD (SqL.of ha1) (Nat.le_of_lt (lt40 (by omega))) rfl ?_ ?_
  · rintro i y ws H2 k hy sm e r hk
    have hi := (List.getElem?_eq_some_iff.mp hy).1
    have ep := List.getElem?_eq_getElem (show i < ps.length by omega)
    obtain ⟨b, la, hb, f1, f2, f3, f4⟩ := (row1.keep sm).get ep
    rw [hy] at f1
    cases f1
    refine ⟨_, rfl, b, la, hb, _, _, rfl, f2, f3, f4, ok.le _ (List.mem_of_getElem? ep), fun c H3 s3 hc => hk _ _ s3 ?_⟩
    rw [List.take_add_one, ep]
    exact ((r.keep s3).app (show RowP _ [_] [.ref c] from ⟨c, la, hb, [], rfl, hc, f3.keep s3, f4.keep s3, rfl⟩)).write (s3 _ _ e)
  rintro ws H2 s2 hD2 hlw r
  rw [List.take_of_length_le (by omega)] at r
  refine ⟨D, ws, rfl, .inl ⟨SqL.of hD2, fun t ht => ?_⟩⟩
  have s3 := same_new ht (.tup ws)
  have r3 := r.keep s3
  have t3 : (upd H2 t (.tup ws)) t = some (.tup ws) := upd_same
  have s13 := (s1.trans s2).trans s3
  generalize hH3 : upd H2 t (.tup ws) = H3 at *
  have hcut : ¬ (HT.sIx ws.length 0 (some 1) = 0 ∧ HT.sIx ws.length ws.length none = ws.length) := by
    rw [show (1 : Int) = ((1 : Nat) : Int) from rfl, HT.sIx_nat]
    omega
  refine ⟨_, rfl, _, rfl, _, rfl, t, ws, rfl, SqT.of t3, hcut, fun m hm => ?_⟩
  rw [cut_tail (by omega)]
  have s4 := same_new hm (.tup (ws.drop 1))
  refine ⟨t, m, rfl, ⟨_, SqT.of (s4 _ _ t3)⟩, ⟨_, SqT.of upd_same⟩, ?_⟩
  have m4 : (upd H3 m (.tup (ws.drop 1))) m = some (.tup (ws.drop 1)) := upd_same
  have r4 := r3.keep s4
  have t4 := s4 _ _ t3
  generalize hH4 : upd H3 m (.tup (ws.drop 1)) = H4 at *
  refine for_zipT (n := ws.length - 1) (xs := ws) (ys := ws.drop 1) (fun i σ H' => Same H4 H' ∧ ∃ v1 v2, σ = [some (.int n), some (.ref a), some (.ref t), v1, v2]) ⟨Same.refl H4, none, none, rfl⟩ (by omega) (by simp) (.inr (by simp)) ?_ ?_ ?_
  · rintro i σ H' hi ⟨sm, _⟩
    exact ⟨SqT.of (sm _ _ t4), SqT.of (sm _ _ m4)⟩
  · rintro i u v U σ H' hi hu hv hU ⟨sm, v1, v2, rfl⟩
    have lw := r4.len
    have ep := List.getElem?_eq_getElem (show i < ps.length by omega)
    have ep2 := List.getElem?_eq_getElem (show i + 1 < ps.length by omega)
    obtain ⟨b, la, hb, f1, f2, f3, f4⟩ := (r4.keep sm).get ep
    obtain ⟨b', la', hb', g1, g2, g3, g4⟩ := (r4.keep sm).get ep2
    rw [hu] at f1
    cases f1
    rw [List.getElem?_drop, Nat.add_comm, g1] at hv
    cases hv
    have sU := same_new hU (.tup [.ref b, .ref b'])
    refine ⟨U, _, rfl, SqT.of upd_same, rfl, .ref b, [.ref b'], rfl, .ref b', [], rfl, rfl, ?_⟩
    have f2' := sU _ _ f2
    have g2' := sU _ _ g2
    have l1 : ¬ ps[i + 1].1 < ps[i].1 := up_next ok.lows (i := i) (by rw [List.getElem?_map, ep]; rfl) (by rw [List.getElem?_map, ep2]; rfl)
    have l2 : ¬ ps[i + 1].2 < ps[i].2 := up_next ok.highs (i := i) (by rw [List.getElem?_map, ep]; rfl) (by rw [List.getElem?_map, ep2]; rfl)
    refine ⟨_, rfl, b', _, 0, _, rfl, rfl, SqT.of g2', at0, _, rfl, b, _, 0, _, rfl, rfl, SqT.of f2', at0, la', la, _, _, rfl, (g3.keep sU).fr, (f3.keep sU).fr, _, rfl, ?_⟩
    refine ite2 (fun c => absurd (of_decide_eq_true c) l1) (fun _ => ?_)
    refine ⟨_, rfl, b', _, 1, _, rfl, rfl, SqT.of g2', at1, _, rfl, b, _, 1, _, rfl, rfl, SqT.of f2', at1, hb', hb, _, _, rfl, (g4.keep sU).fr, (f4.keep sU).fr, _, rfl, ?_⟩
    refine ite2 (fun c => absurd (of_decide_eq_true c) l2) (fun _ => ?_)
    exact ⟨sm.trans sU, _, _, rfl⟩
  · rintro σ H' ⟨sm, v1, v2, rfl⟩
    refine ⟨_, rfl, _, rfl, (by show 2 ≤ sizeLine; decide), fun x hx => ?_⟩
    have s5 := same_new hx (.tup [V.int n, V.ref t])
    exact q x _ (((s13.trans s4).trans sm).trans s5) ⟨⟨t, ws, upd_same, s5 _ _ (sm _ _ t4), (r4.keep sm).keep s5⟩, ok⟩
noncomputable abbrev Cd := Rat × Rat × Bool × Rat
noncomputable def stepC : Option Cd → Cd → Option Cd
  | none, c => some c
  | some d, c => if c.1 < d.1 then some c else some d
noncomputable def cdsOf (n : Nat) (p : Pc) : List Cd := [(rsumO p.1 n p.2.2, p.1, true, p.2.1), (rsumO p.2.1 n p.2.2, p.2.1, false, p.1)]
noncomputable def bestC (n : Nat) (l : List Pc) : Option Cd := (l.flatMap (cdsOf n)).foldl stepC none
theorem bestC_snoc (n : Nat) (l : List Pc) (p : Pc) : bestC n (l ++ [p]) = (cdsOf n p).foldl stepC (bestC n l) := by
  unfold bestC
  rw [List.flatMap_append, List.foldl_append]
  simp
theorem step_some (o : Option Cd) (c : Cd) : ∃ d, stepC o c = some d := by
  cases o with
  | none => exact ⟨_, rfl⟩
  | some d =>
    show ∃ e, (if c.1 < d.1 then some c else some d) = some e
    by_cases h : c.1 < d.1
    · exact ⟨c, if_pos h⟩
    · exact ⟨d, if_neg h⟩
theorem fold_some : ∀ (l : List Cd) (c : Cd), ∃ d, l.foldl stepC (some c) = some d
  | [], c => ⟨c, rfl⟩
  | e :: l, c => by
    obtain ⟨d, hd⟩ := step_some (some c) e
    rw [List.foldl_cons, hd]
    exact fold_some l d
theorem bestC_some {n : Nat} {l : List Pc} (h : l ≠ []) : ∃ c, bestC n l = some c := by
  cases l with
  | nil => exact absurd rfl h
  | cons p l =>
    unfold bestC
    rw [List.flatMap_cons]
    exact fold_some _ _
noncomputable def sideS (b : Bool) : Str := if b then "above" else "below"
structure CdA (H : Hp) (x : Addr) (c : Cd) : Prop where
  ob : ∃ t a f, H x = some (.tup [.ref t, .ref a, .str (sideS c.2.2.1), .ref f]) ∧ FrA H t c.1 ∧ Shp H a c.2.1 ∧ Shp H f c.2.2.2
theorem CdA.keep {H H' : Hp} {x : Addr} {c : Cd} (h : CdA H x c) (s : Same H H') : CdA H' x c := by
  obtain ⟨t, a, f, e, h1, h2, h3⟩ := h.ob
  exact ⟨t, a, f, s _ _ e, h1.keep s, h2.keep s, h3.keep s⟩
noncomputable def CdV (H : Hp) : Option Cd → V → Prop
  | none, v => v = .non
  | some c, v => ∃ x, v = .ref x ∧ CdA H x c
theorem CdV.keep {H H' : Hp} (s : Same H H') : ∀ {o : Option Cd} {v : V}, CdV H o v → CdV H' o v
  | none, _, h => h
  | some _, _, ⟨x, e, h⟩ => ⟨x, e, h.keep s⟩
theorem rsumO_unit {n : Nat} {p : Rat} (h0 : 0 ≤ p) (h1 : p ≤ 1) : ∀ r, 0 ≤ rsumO p n r ∧ rsumO p n r ≤ 1
  | none => ⟨by show (0 : Rat) ≤ 0; grind, by show (0 : Rat) ≤ 1; grind⟩
  | some z => rsum_unit h0 h1 n z.1 z.2
theorem rsumO_ov {p : Rat} {B : Nat} (h : Ov B p) (n : Nat) : ∀ r, Ov (B ^ n) (rsumO p n r)
  | none => ⟨0, by show (0 : Rat) * _ = _; grind⟩
  | some z => rsum_ov h n z.1 z.2
theorem fr_rsumO {H H' : Hp} {a f : Addr} {p : Rat} (h : Shp H a p) {n : Nat} (hn : n ≤ 12) {r : Option (Nat × Nat)} (e : H' f = some (.tup [.int (rsumO p n r).num, .int ((rsumO p n r).den : Int)])) : FrA H' f (rsumO p n r) :=
  have u := rsumO_unit (n := n) h.lo h.hi r
  frA_of e (rsumO_ov (Ov.self p) n r) (h.pw (by omega)).1 (h.pw (by omega)).2 u.1 u.2
theorem piece_run {n : Nat} {ps : List (Rat × Rat)} (ok : IsRule n ps) {es : List Rat} {p : Pc} (hp : p ∈ pieceL es ps) : ∀ z, p.2.2 = some z → z.1 ≤ z.2 ∧ z.2 ≤ n := by
  unfold pieceL at hp
  obtain ⟨k, _, rfl⟩ := List.mem_map.mp hp
  intro z hz
  exact run_in ok hz
noncomputable abbrev allPc (ps : List (Rat × Rat)) : List Pc := pieceL (edg (rimL ps)) ps
theorem allPc_ne (ps : List (Rat × Rat)) : allPc ps ≠ [] := by
  intro h
  have h1 : (allPc ps).length = (edg (rimL ps)).length - 1 := pieceL_len _ _
  rw [h] at h1
  have := edg_two ps
  have h2 : ([] : List Pc).length = 0 := rfl
  omega
noncomputable def spLpl : Sp := fun vs H Q _ => ∃ (x : Addr) (n : Nat) (ps : List (Rat × Rat)), vs = [.ref x] ∧ RuleAt H x n ps ∧ ∀ v H', Same H H' → CdV H' (bestC n (allPc ps)) v → Q v H'
theorem sc_lpl : FnScope ["rule", "found", "a", "b", "run", "at", "side", "far", "total"] ["rule"] (defScope s_lpl) := ⟨rfl, rfl, rfl, by decide +kernel, rfl, by decide +kernel, by decide +kernel⟩
theorem ok_lpl {f : Addr} {fd : FuncData} (F : Fun K "least_place" "least_place" s_lpl f fd) (T : Txt mg) {fpieces : Addr} {dpieces : FuncData} (Gpieces : FnOk P w K mg base CX0 6 fpieces dpieces ["rule"] spPieces) (bpieces : Binds K dpieces ["rule"] []) (kpieces : PySem.W.keepIn K (.ref fpieces) = true) (mpieces : mg "pieces" = some (.ref fpieces)) {fsor : Addr} {dsor : FuncData} (Gsor : FnOk P w K mg base CX0 6 fsor dsor ["n", "run", "p"] spSor) (bsor : Binds K dsor ["n", "run", "p"] []) (ksor : PySem.W.keepIn K (.ref fsor) = true) (msor : mg "sum_of_run" = some (.ref fsor)) {fund : Addr} {dund : FuncData} (Gund : FnOk P w K mg base CX0 6 fund dund ["one", "other"] spUnd) (bund : Binds K dund ["one", "other"] []) (kund : PySem.W.keepIn K (.ref fund) = true) (mund : mg "under" = some (.ref fund)) : FnOk P w K mg base CX0 7 f fd ["rule"] spLpl := by
  refine F.ok sc_lpl (fun vs H Q E h => ?_) (fun cdv A outer s H vs Q E hr h => ?_)
  · obtain ⟨x, n, ps, rfl, _⟩ := h
    rfl
  obtain ⟨x, n, ps, rfl, hx, q⟩ := h
  refine ⟨_, (pss_cons (ps_set (i := 1) sc_lpl.nd rfl (Or.inl rfl) pe_non)
    (pss_cons (ps_for PassesOwn.never rfl (pi_list (pe_call Gpieces hr rfl mpieces kpieces bpieces .nil pass0 (pa_cons (pv 0) pa_nil))) (pg_tup rfl (pgs_cons (pg_name (i := 2) sc_lpl.nd rfl (Or.inl rfl)) (pgs_cons (pg_name (i := 3) sc_lpl.nd rfl (Or.inl rfl)) (pgs_cons (pg_name (i := 4) sc_lpl.nd rfl (Or.inl rfl)) pgs_nil)))) (pss_one (ps_for PassesOwn.never rfl (pi_tup (pe_tup (pa_cons (pe_tup (pa_cons (pv 2) (pa_cons pe_str (pa_cons (pv 3) pa_nil)))) (pa_cons (pe_tup (pa_cons (pv 3) (pa_cons pe_str (pa_cons (pv 2) pa_nil)))) pa_nil)))) (pg_tup rfl (pgs_cons (pg_name (i := 5) sc_lpl.nd rfl (Or.inl rfl)) (pgs_cons (pg_name (i := 6) sc_lpl.nd rfl (Or.inl rfl)) (pgs_cons (pg_name (i := 7) sc_lpl.nd rfl (Or.inl rfl)) pgs_nil)))) (pss_cons (ps_set (i := 8) sc_lpl.nd rfl (Or.inl rfl) (pe_call Gsor hr rfl msor ksor bsor .nil pass0 (pa_cons (pe_ix ix_tup (pv 0) pe_int (fun _ _ => rfl)) (pa_cons (pv 4) (pa_cons (pv 5) pa_nil)))))
        (pss_one (ps_if (PW.pt (pw_or (pt_cmpR op_isN (pv 1) pe_non (nomark _)) (pw_or1 (pt_val (pe_call Gund hr rfl mund kund bund .nil pass0 (pa_cons (pv 8) (pa_cons (pe_ix ix_tup (pv 1) pe_int (fun _ _ => rfl)) pa_nil))))))) (pss_one (ps_set (i := 1) sc_lpl.nd rfl (Or.inl rfl) (pe_tup (pa_cons (pv 8) (pa_cons (pv 5) (pa_cons (pv 6) (pa_cons (pv 7) pa_nil))))))) pss_nil))))))
    (pss_one (ps_ret (pv 1))))), ?_⟩
  have n12 := hx.ok.n12
  obtain ⟨tt, zs, ex, et, row⟩ := hx.ob
  refine ⟨_, rfl, x, n, ps, rfl, hx, fun l H1 ws _ s1 hl pcs => ?_⟩
  have lw : ws.length = (allPc ps).length := pcs.len
  refine ⟨l, rfl, ⟨_, SqL.of hl⟩, ?_⟩
  refine for_list (xs := ws) (fun i σ H' => Same H1 H' ∧ ∃ v j1 j2 j3 j4 j5 j6 j7, σ = [some (.ref x), some v, j1, j2, j3, j4, j5, j6, j7] ∧ CdV H' (bestC n ((allPc ps).take i)) v) ⟨Same.refl H1, .non, none, none, none, none, none, none, none, rfl, rfl⟩ ?_ ?_ ?_
  · rintro i σ H' hi ⟨sm, _⟩
    exact SqL.of (sm _ _ hl)
  · rintro i y σ H2 hy ⟨sm, v, j1, j2, j3, j4, j5, j6, j7, rfl, cv⟩
    have hi := (List.getElem?_eq_some_iff.mp hy).1
    have ep := List.getElem?_eq_getElem (show i < (allPc ps).length by omega)
    have rin := piece_run hx.ok (List.mem_of_getElem? ep)
    obtain ⟨t, a, b, w, f1, f2, f3, f4, f5⟩ := (pcs.keep sm).get ep
    rw [hy] at f1
    cases f1
    have tk : (allPc ps).take (i + 1) = (allPc ps).take i ++ [(allPc ps)[i]] := by rw [List.take_add_one, ep]; rfl
    rw [tk, bestC_snoc]
    generalize hpc : (allPc ps)[i] = pc at *
    generalize hbo : bestC n ((allPc ps).take i) = bo at *
    refine ⟨t, _, rfl, SqT.of f2, rfl, .ref a, _, rfl, .ref b, _, rfl, w, [], rfl, rfl, ?_⟩
    refine ⟨_, rfl, _, rfl, (by show 3 ≤ sizeLine; decide), fun u1 h1 => ⟨_, rfl, _, rfl, (by show 3 ≤ sizeLine; decide), fun u2 h2 => ⟨(by show 2 ≤ sizeLine; decide), fun u3 h3 => ?_⟩⟩⟩
    have t1 := same_new h1 (.tup [V.ref a, V.str "above", V.ref b])
    have t2 := same_new h2 (.tup [V.ref b, V.str "below", V.ref a])
    have t3 := same_new h3 (.tup [V.ref u1, V.ref u2])
    have o1 := t3 _ _ (t2 _ _ (upd_same (H := H2) (a := u1) (o := .tup [V.ref a, V.str "above", V.ref b])))
    have o2 := t3 _ _ (upd_same (H := upd H2 u1 (.tup [V.ref a, V.str "above", V.ref b])) (a := u2) (o := .tup [V.ref b, V.str "below", V.ref a]))
    have o3 : (upd (upd (upd H2 u1 (.tup [V.ref a, V.str "above", V.ref b])) u2 (.tup [V.ref b, V.str "below", V.ref a])) u3 (.tup [V.ref u1, V.ref u2])) u3 = some (.tup [V.ref u1, V.ref u2]) := upd_same
    have t13 := (t1.trans t2).trans t3
    refine ⟨u3, rfl, ⟨_, SqT.of o3⟩, ?_⟩
    generalize hH3 : upd (upd (upd H2 u1 (.tup [V.ref a, V.str "above", V.ref b])) u2 (.tup [V.ref b, V.str "below", V.ref a])) u3 (.tup [V.ref u1, V.ref u2]) = H3 at *
    refine for_tup (xs := [V.ref u1, V.ref u2]) (fun j σ H' => Same H3 H' ∧ ∃ v k1 k2 k3 k4, σ = [some (.ref x), some v, some (.ref a), some (.ref b), some w, k1, k2, k3, k4] ∧ CdV H' (((cdsOf n pc).take j).foldl stepC bo) v) ⟨Same.refl H3, v, j4, j5, j6, j7, rfl, cv.keep t13⟩ ?_ ?_ ?_
    · rintro j σ H' hj ⟨sm', _⟩
      exact SqT.of (sm' _ _ o3)
    · rintro j z σ H4 hz ⟨sm', v', k1, k2, k3, k4, rfl, cv'⟩
      have s34 := t13.trans sm'
      obtain ⟨uj, at_, far, c, rfl, e1, e2, e3, e4, e5⟩ : ∃ uj at_ far c, z = V.ref uj ∧ (cdsOf n pc)[j]? = some c ∧ H3 uj = some (.tup [.ref at_, .str (sideS c.2.2.1), .ref far]) ∧ Shp H2 at_ c.2.1 ∧ Shp H2 far c.2.2.2 ∧ c.1 = rsumO c.2.1 n pc.2.2 := by
        match j, hz with
        | 0, hz => exact ⟨u1, a, b, _, by simpa using hz.symm, rfl, o1, f3, f4, rfl⟩
        | 1, hz => exact ⟨u2, b, a, _, by simpa using hz.symm, rfl, o2, f4, f3, rfl⟩
      have tk' : (cdsOf n pc).take (j + 1) = (cdsOf n pc).take j ++ [c] := by rw [List.take_add_one, e1]; rfl
      rw [tk', List.foldl_append, List.foldl_cons, List.foldl_nil]
      generalize ((cdsOf n pc).take j).foldl stepC bo = o at *
      have sat := e3.keep s34
      have sfar := e4.keep s34
      refine ⟨uj, _, rfl, SqT.of (sm' _ _ e2), rfl, .ref at_, _, rfl, .str (sideS c.2.2.1), _, rfl, .ref far, [], rfl, rfl, ?_⟩
      have ex4 := (s1.trans (sm.trans s34)) _ _ ex
      refine ⟨_, rfl, x, _, 0, _, rfl, rfl, SqT.of ex4, at0, _, rfl, _, rfl, n, w, pc.2.2, at_, c.2.1, rfl, f5.keep s34, sat, n12, rin, fun to H5 s5 hto => ?_⟩
      have fto := fr_rsumO sat n12 hto
      rw [← e5] at fto
      have sm5 := sm'.trans s5
      cases o with
      | none =>
        have ev : v' = V.non := cv'
        subst ev
        refine ⟨_, rfl, rfl, _, rfl, iteT (iteT ?_)⟩
        refine ⟨_, rfl, _, rfl, _, rfl, _, rfl, (by show 4 ≤ sizeLine; decide), fun y hy => ?_⟩
        have s6 := same_new hy (.tup [V.ref to, V.ref at_, V.str (sideS c.2.2.1), V.ref far])
        exact ⟨sm5.trans s6, _, _, _, _, _, rfl, y, rfl, to, at_, far, upd_same, fto.keep s6, (sat.keep s5).keep s6, (sfar.keep s5).keep s6⟩
      | some d =>
        obtain ⟨yo, ev, ⟨to', ao, fo, g1, g2, g3, g4⟩⟩ := cv'
        subst ev
        refine ⟨_, rfl, rfl, _, rfl, iteF ?_⟩
        refine ⟨_, rfl, _, rfl, yo, _, 0, _, rfl, rfl, SqT.of (s5 _ _ g1), at0, to, to', _, _, rfl, fto, g2.keep s5, _, rfl, ?_⟩
        by_cases cc : c.1 < d.1
        · rw [decide_eq_true cc]
          refine iteT ⟨_, rfl, _, rfl, _, rfl, _, rfl, (by show 4 ≤ sizeLine; decide), fun y hy => ?_⟩
          have s6 := same_new hy (.tup [V.ref to, V.ref at_, V.str (sideS c.2.2.1), V.ref far])
          refine ⟨sm5.trans s6, _, _, _, _, _, rfl, ?_⟩
          show CdV _ (if c.1 < d.1 then some c else some d) _
          rw [if_pos cc]
          exact ⟨y, rfl, to, at_, far, upd_same, fto.keep s6, (sat.keep s5).keep s6, (sfar.keep s5).keep s6⟩
        · rw [decide_eq_false cc]
          refine iteF ⟨sm5, _, _, _, _, _, rfl, ?_⟩
          show CdV _ (if c.1 < d.1 then some c else some d) _
          rw [if_neg cc]
          exact ⟨yo, rfl, to', ao, fo, s5 _ _ g1, g2.keep s5, g3.keep s5, g4.keep s5⟩
    · rintro σ H4 ⟨sm', v', k1, k2, k3, k4, rfl, cv'⟩
      exact ⟨(sm.trans t13).trans sm', _, _, _, _, _, _, _, _, rfl, cv'⟩
  · rintro σ H2 ⟨sm, v, j1, j2, j3, j4, j5, j6, j7, rfl, cv⟩
    rw [lw, List.take_length] at cv
    exact ⟨_, rfl, q v H2 (s1.trans sm) cv⟩
noncomputable def spLeast : Sp := fun vs H Q _ => ∃ (x : Addr) (n : Nat) (ps : List (Rat × Rat)), vs = [.ref x] ∧ RuleAt H x n ps ∧ ∀ c y t a H', bestC n (allPc ps) = some c → Same H H' → H' y = some (.tup [.ref t, .ref a, .str (sideS c.2.2.1)]) → FrA H' t c.1 → Shp H' a c.2.1 → Q (.ref y) H'
theorem at2 {x y z : V} {xs : List V} : atI (x :: y :: z :: xs) 2 = some z := atI_nat (xs := x :: y :: z :: xs) (j := 2) rfl
theorem sc_least : FnScope ["rule", "place"] ["rule"] (defScope s_least) := ⟨rfl, rfl, rfl, by decide +kernel, rfl, by decide +kernel, by decide +kernel⟩
theorem ok_least {f : Addr} {fd : FuncData} (F : Fun K "least" "least" s_least f fd) (T : Txt mg) {flpl : Addr} {dlpl : FuncData} (Glpl : FnOk P w K mg base CX0 7 flpl dlpl ["rule"] spLpl) (blpl : Binds K dlpl ["rule"] []) (klpl : PySem.W.keepIn K (.ref flpl) = true) (mlpl : mg "least_place" = some (.ref flpl)) : FnOk P w K mg base CX0 8 f fd ["rule"] spLeast := by
  refine F.ok sc_least (fun vs H Q E h => ?_) (fun cdv A outer s H vs Q E hr h => ?_)
  · obtain ⟨x, n, ps, rfl, _⟩ := h
    rfl
  obtain ⟨x, n, ps, rfl, hx, q⟩ := h
  refine ⟨_, (pss_cons (ps_set (i := 1) sc_least.nd rfl (Or.inl rfl) (pe_call Glpl hr rfl mlpl klpl blpl .nil pass0 (pa_cons (pv 0) pa_nil)))
    (pss_one (ps_ret (pe_tup (pa_cons (pe_ix ix_tup (pv 1) pe_int (fun _ _ => rfl)) (pa_cons (pe_ix ix_tup (pv 1) pe_int (fun _ _ => rfl)) (pa_cons (pe_ix ix_tup (pv 1) pe_int (fun _ _ => rfl)) pa_nil))))))), ?_⟩
  obtain ⟨c, hc⟩ := bestC_some (n := n) (allPc_ne ps)
  refine ⟨_, rfl, x, n, ps, rfl, hx, fun v H1 s1 cv => ?_⟩
  rw [hc] at cv
  obtain ⟨y, ev, ⟨t, a, f, g1, g2, g3, g4⟩⟩ := cv
  subst ev
  refine ⟨_, rfl, y, _, 0, _, rfl, rfl, SqT.of g1, at0, _, rfl, y, _, 1, _, rfl, rfl, SqT.of g1, at1, _, rfl, y, _, 2, _, rfl, rfl, SqT.of g1, at2, (by show 3 ≤ sizeLine; decide), fun z hz => ?_⟩
  have s2 := same_new hz (.tup [V.ref t, V.ref a, V.str (sideS c.2.2.1)])
  exact q c z t a _ hc (s1.trans s2) upd_same (g2.keep s2) (g3.keep s2)
noncomputable def spWt : Sp := fun vs H Q _ => ∃ (k : Int) (l be : Addr) (a b c d : Int), vs = [.int k, .ref l, .ref be] ∧ H l = some (.tup [.int a, .int b]) ∧ H be = some (.tup [.int c, .int d]) ∧ Smk k ∧ Smk a ∧ Smk b ∧ ∀ p, H p = none → Q (.ref p) (upd H p (.tup [.int (k * a + c), .int (k * b + d)]))
theorem sc_wterm : FnScope ["term", "last", "before"] ["term", "last", "before"] (defScope s_wterm) := ⟨rfl, rfl, rfl, by decide +kernel, rfl, by decide +kernel, by decide +kernel⟩
theorem ok_wterm {f : Addr} {fd : FuncData} (F : Fun K "with_term" "with_term" s_wterm f fd) (T : Txt mg) : FnOk P w K mg base CX0 1 f fd ["term", "last", "before"] spWt := by
  refine F.ok sc_wterm (fun vs H Q E h => ?_) (fun cdv A outer s H vs Q E hr h => ?_)
  · obtain ⟨k, l, be, a, b, c, d, rfl, _⟩ := h
    rfl
  obtain ⟨k, l, be, a, b, c, d, rfl, hl, hb, sk, sa, sb, q⟩ := h
  refine ⟨_, (pss_one (ps_ret (pe_tup (pa_cons (pe_op op_add (pe_op op_mulK (pv 0) (pe_ix ix_tup (pv 1) pe_int (fun _ _ => rfl))) (pe_ix ix_tup (pv 2) pe_int (fun _ _ => rfl))) (pa_cons (pe_op op_add (pe_op op_mulK (pv 0) (pe_ix ix_tup (pv 1) pe_int (fun _ _ => rfl))) (pe_ix ix_tup (pv 2) pe_int (fun _ _ => rfl))) pa_nil))))), ?_⟩
  exact ⟨_, rfl, _, rfl, l, _, 0, _, rfl, rfl, SqT.of hl, at0, _, _, rfl, rfl, ⟨sk, sa⟩, _, rfl, be, _, 0, _, rfl, rfl, SqT.of hb, at0, _, _, rfl, rfl, _, rfl, _, rfl, l, _, 1, _, rfl, rfl, SqT.of hl, at1, _, _, rfl, rfl, ⟨sk, sb⟩, _, rfl, be, _, 1, _, rfl, rfl, SqT.of hb, at1, _, _, rfl, rfl, (by show 2 ≤ sizeLine; decide), fun p hp => q p hp⟩
noncomputable def muZ (σ : St) (G : Hp) : Nat := match σ with
  | some (.ref lo) :: some (.ref hi) :: _ => match G lo, G hi with
    | some (.tup [_, .int l1]), some (.tup [_, .int h1]) => (l1 + h1).toNat
    | _, _ => 0
  | _ => 0
theorem muZ_is {lo hi : Addr} {x y : V} {l1 h1 : Int} {σ : St} {G : Hp} (e1 : G lo = some (.tup [x, .int l1])) (e2 : G hi = some (.tup [y, .int h1])) : muZ (some (.ref lo) :: some (.ref hi) :: σ) G = (l1 + h1).toNat := by
  unfold muZ
  simp only [e1, e2]
theorem smZ {x Z : Int} (h0 : 0 ≤ x) (h1 : x ≤ Z) (hz : Sz 500 Z) : Smk x := by
  have : x.natAbs ≤ Z.natAbs := by omega
  exact Nat.lt_of_le_of_lt this (Nat.lt_trans hz (Nat.pow_lt_pow_right (by decide) (by decide)))
theorem fdiv_pos {a b : Int} (h : 0 < b) : a.fdiv b = a / b := Int.fdiv_eq_ediv_of_nonneg a (Int.le_of_lt h)
theorem si_aZ {Z A B l0 l1 h0 h1 a b c d : Int} (s : SI Z A B l0 l1 h0 h1 a b c d) : a ≤ A ∧ b ≤ B ∧ c ≤ A ∧ d ≤ B := by
  have l1p := s.l1p
  have h0p := s.h0p
  have l0p := s.l0p
  have h1p := s.h1p
  have e1 : a * 1 ≤ a * (l0 + h0) := Int.mul_le_mul_of_nonneg_left (by omega) s.ap
  have e2 : b * 1 ≤ b * (l0 + h0) := Int.mul_le_mul_of_nonneg_left (by omega) s.bp
  have e3 : c * 1 ≤ c * (l1 + h1) := Int.mul_le_mul_of_nonneg_left (by omega) s.cp
  have e4 : d * 1 ≤ d * (l1 + h1) := Int.mul_le_mul_of_nonneg_left (by omega) s.dp
  have sA := s.sA
  have sB := s.sB
  have ap := s.ap
  have bp := s.bp
  have cp := s.cp
  have dp := s.dp
  refine ⟨by omega, by omega, by omega, by omega⟩
noncomputable def spSim : Sp := fun vs H Q _ => ∃ (lo hi : Addr) (l h : Rat), vs = [.ref lo, .ref hi] ∧ H lo = some (.tup [.int l.num, .int (l.den : Int)]) ∧ H hi = some (.tup [.int h.num, .int (h.den : Int)]) ∧ 0 ≤ l ∧ l < h ∧ h ≤ 1 ∧ Sz 498 (l.den : Int) ∧ Sz 498 (h.den : Int) ∧
  ∀ p H', Same H H' → H' p = some (.tup [.int (simR l h).num, .int ((simR l h).den : Int)]) → Q (.ref p) H'
theorem sc_sim : FnScope ["low", "high", "before", "last", "whole", "added", "turned"] ["low", "high"] (defScope s_sim) := ⟨rfl, rfl, rfl, by decide +kernel, rfl, by decide +kernel, by decide +kernel⟩
theorem ok_sim {f : Addr} {fd : FuncData} (F : Fun K "simplest_between" "simplest_between" s_sim f fd) (T : Txt mg) {fwterm : Addr} {dwterm : FuncData} (Gwterm : FnOk P w K mg base CX0 1 fwterm dwterm ["term", "last", "before"] spWt) (bwterm : Binds K dwterm ["term", "last", "before"] []) (kwterm : PySem.W.keepIn K (.ref fwterm) = true) (mwterm : mg "with_term" = some (.ref fwterm)) : FnOk P w K mg base CX0 2 f fd ["low", "high"] spSim := by
  refine F.ok sc_sim (fun vs H Q E h => ?_) (fun cdv A outer s H vs Q E hr h => ?_)
  · obtain ⟨lo, hi, l, h, rfl, _⟩ := h
    rfl
  obtain ⟨lo, hi, l, h, rfl, hlo, hhi, l0, hlt, hle, zl, zh, q⟩ := h
  refine ⟨_, (pss_cons (ps_set (i := 2) sc_sim.nd rfl (Or.inl rfl) (pe_tup (pa_cons pe_int (pa_cons pe_int pa_nil))))
    (pss_cons (ps_set (i := 3) sc_sim.nd rfl (Or.inl rfl) (pe_tup (pa_cons pe_int (pa_cons pe_int pa_nil))))
    (pss_cons (ps_set (i := 4) sc_sim.nd rfl (Or.inl rfl) (pe_op op_fdivK (pe_ix ix_tup (pv 0) pe_int (fun _ _ => rfl)) (pe_ix ix_tup (pv 0) pe_int (fun _ _ => rfl))))
    (pss_cons (ps_while PassesOwn.never (pt_cmpR op_ge (pe_op op_mulK (pe_op op_add (pv 4) pe_int) (pe_ix ix_tup (pv 1) pe_int (fun _ _ => rfl))) (pe_ix ix_tup (pv 1) pe_int (fun _ _ => rfl)) (nomark _)) (pss_cons (ps_set (i := 5) sc_sim.nd rfl (Or.inl rfl) (pe_call Gwterm hr rfl mwterm kwterm bwterm .nil pass0 (pa_cons (pv 4) (pa_cons (pv 3) (pa_cons (pv 2) pa_nil)))))
      (pss_cons (ps_set (i := 2) sc_sim.nd rfl (Or.inl rfl) (pv 3))
      (pss_cons (ps_set (i := 3) sc_sim.nd rfl (Or.inl rfl) (pv 5))
      (pss_cons (ps_set (i := 6) sc_sim.nd rfl (Or.inl rfl) (pe_tup (pa_cons (pe_ix ix_tup (pv 1) pe_int (fun _ _ => rfl)) (pa_cons (pe_op op_sub (pe_ix ix_tup (pv 1) pe_int (fun _ _ => rfl)) (pe_op op_mulK (pv 4) (pe_ix ix_tup (pv 1) pe_int (fun _ _ => rfl)))) pa_nil))))
      (pss_cons (ps_set (i := 1) sc_sim.nd rfl (Or.inl rfl) (pe_tup (pa_cons (pe_ix ix_tup (pv 0) pe_int (fun _ _ => rfl)) (pa_cons (pe_op op_sub (pe_ix ix_tup (pv 0) pe_int (fun _ _ => rfl)) (pe_op op_mulK (pv 4) (pe_ix ix_tup (pv 0) pe_int (fun _ _ => rfl)))) pa_nil))))
      (pss_cons (ps_set (i := 0) sc_sim.nd rfl (Or.inl rfl) (pv 6))
      (pss_one (ps_set (i := 4) sc_sim.nd rfl (Or.inl rfl) (pe_op op_fdivK (pe_ix ix_tup (pv 0) pe_int (fun _ _ => rfl)) (pe_ix ix_tup (pv 0) pe_int (fun _ _ => rfl))))))))))))
    (pss_one (ps_ret (pe_call Gwterm hr rfl mwterm kwterm bwterm .nil pass0 (pa_cons (pe_op op_add (pv 4) pe_int) (pa_cons (pv 3) (pa_cons (pv 2) pa_nil)))))))))), ?_⟩
  have two : 2 ≤ sizeLine := by decide
  have lp := rden l
  have hp := rden h
  have ln : 0 ≤ l.num := (r_nonneg l).mpr l0
  have l1 : l.num ≤ (l.den : Int) := (r_le1 l).mpr (by grind)
  have h1 : h.num ≤ (h.den : Int) := (r_le1 h).mpr hle
  obtain ⟨Z, hZ⟩ : ∃ Z : Int, (l.den : Int) + (h.den : Int) = Z := ⟨_, rfl⟩
  have szZ : Sz 500 Z := by rw [← hZ]; exact (zl.add zh).mono (by decide)
  have si0 := sim_si (Z := Z) l0 hlt (by omega) (by omega) (by omega) (by omega)
  rw [hZ] at si0
  have hA : l.num + h.num ≤ Z := by omega
  obtain ⟨so1, so2, _⟩ := sim_ok l0 hlt
  generalize hAA : l.num + h.num = AA at *
  refine ⟨two, fun be hbe => ?_⟩
  have w1 := same_new hbe (.tup [V.int 0, V.int 1])
  have x1 : upd H be (.tup [V.int 0, V.int 1]) be = some (.tup [V.int 0, V.int 1]) := upd_same
  generalize upd H be (.tup [V.int 0, V.int 1]) = H1 at *
  refine ⟨two, fun la hla => ?_⟩
  have w2 := same_new hla (.tup [V.int 1, V.int 0])
  have x2 : upd H1 la (.tup [V.int 1, V.int 0]) la = some (.tup [V.int 1, V.int 0]) := upd_same
  generalize upd H1 la (.tup [V.int 1, V.int 0]) = H2 at *
  have s2 := w1.trans w2
  refine ⟨_, rfl, lo, _, 0, _, rfl, rfl, SqT.of (s2 _ _ hlo), at0, _, rfl, lo, _, 1, _, rfl, rfl, SqT.of (s2 _ _ hlo), at1, _, _, rfl, rfl, ⟨Int.ne_of_gt lp, smZ (Int.le_of_lt lp) (by omega) szZ⟩, ?_⟩
  dsimp only
  rw [fdiv_pos lp]
  refine while_by (fun σ G => Same H G ∧ ∃ (lo hi be la : Addr) (l0 l1 h0 h1 a b c d : Int) (v5 v6 : Option V) (k : Nat), σ = [some (.ref lo), some (.ref hi), some (.ref be), some (.ref la), some (.int (l0 / l1)), v5, v6] ∧ G lo = some (.tup [.int l0, .int l1]) ∧ G hi = some (.tup [.int h0, .int h1]) ∧ G be = some (.tup [.int c, .int d]) ∧ G la = some (.tup [.int a, .int b]) ∧ SI Z AA Z l0 l1 h0 h1 a b c d ∧ (l1 + h1).toNat < k ∧ simF k l0 l1 h0 h1 a b c d = simP l h) muZ
    ⟨s2, lo, hi, be, la, _, _, _, _, 1, 0, 0, 1, none, none, ((l.den : Int) + (h.den : Int) + 1).toNat, rfl, s2 _ _ hlo, s2 _ _ hhi, w2 _ _ x1, x2, si0, by omega, rfl⟩ ?_ ?_
  · rintro σ G ⟨sm, lo', hi', be', la', p0, p1, q0, q1, a, b, c, d, v5, v6, k, rfl, g1, g2, g3, g4, si, hk, ek⟩
    obtain ⟨w0, wa, wb, wc⟩ := fl_ok si.l0p si.l1p
    obtain ⟨aA, bB, cA, dB⟩ := si_aZ si
    have z1 := si.z1
    have z2 := si.z2
    have z3 := si.z3
    have z4 := si.z4
    have l1p := si.l1p
    have h1p := si.h1p
    have szw : Smk (p0 / p1) := smZ w0 (by omega) szZ
    have szw1 : Smk (p0 / p1 + 1) := smZ (Z := Z + 1) (by omega) (by omega) (by rw [← hZ]; exact ((zl.add zh).add (show Sz 499 (1 : Int) from Nat.one_lt_two_pow (by decide))))
    refine ⟨_, rfl, _, _, rfl, rfl, _, rfl, hi', _, 1, _, rfl, rfl, SqT.of g2, at1, _, _, rfl, rfl, ⟨szw1, smZ h1p z4 szZ⟩, _, rfl, hi', _, 0, _, rfl, rfl, SqT.of g2, at0, _, _, rfl, rfl, _, rfl, ?_⟩
    obtain ⟨k', rfl⟩ : ∃ k', k = k' + 1 := ⟨k - 1, by omega⟩
    refine ite2 (fun cc => ?_) (fun cc => ?_)
    · have cc' : q0 ≤ (p0 / p1 + 1) * q1 := of_decide_eq_true cc
      obtain ⟨si', mm⟩ := si.step cc'
      have pl := si.low
      have ph := si'.h1p
      unfold simF at ek
      rw [if_pos cc'] at ek
      refine ⟨_, rfl, _, rfl, _, rfl, p0 / p1, la', be', a, b, c, d, rfl, g4, g3, szw, smZ si.ap (by omega) szZ, smZ si.bp (by omega) szZ, fun ad had => ?_⟩
      have u1 := same_new had (.tup [V.int (p0 / p1 * a + c), V.int (p0 / p1 * b + d)])
      have y1 : upd G ad (.tup [V.int (p0 / p1 * a + c), V.int (p0 / p1 * b + d)]) ad = some (.tup [V.int (p0 / p1 * a + c), V.int (p0 / p1 * b + d)]) := upd_same
      generalize upd G ad (.tup [V.int (p0 / p1 * a + c), V.int (p0 / p1 * b + d)]) = G1 at *
      have g1' := u1 _ _ g1
      have g2' := u1 _ _ g2
      refine ⟨_, rfl, _, rfl, _, rfl, hi', _, 1, _, rfl, rfl, SqT.of g2', at1, _, rfl, hi', _, 0, _, rfl, rfl, SqT.of g2', at0, _, rfl, _, rfl, hi', _, 1, _, rfl, rfl, SqT.of g2', at1, _, _, rfl, rfl, ⟨szw, smZ h1p z4 szZ⟩, _, _, rfl, rfl, two, fun tu htu => ?_⟩
      have u2 := same_new htu (.tup [V.int q1, V.int (q0 - p0 / p1 * q1)])
      have y2 : upd G1 tu (.tup [V.int q1, V.int (q0 - p0 / p1 * q1)]) tu = some (.tup [V.int q1, V.int (q0 - p0 / p1 * q1)]) := upd_same
      generalize upd G1 tu (.tup [V.int q1, V.int (q0 - p0 / p1 * q1)]) = G2 at *
      have g1'' := u2 _ _ g1'
      refine ⟨_, rfl, lo', _, 1, _, rfl, rfl, SqT.of g1'', at1, _, rfl, lo', _, 0, _, rfl, rfl, SqT.of g1'', at0, _, rfl, _, rfl, lo', _, 1, _, rfl, rfl, SqT.of g1'', at1, _, _, rfl, rfl, ⟨szw, smZ (Int.le_of_lt l1p) z2 szZ⟩, _, _, rfl, rfl, two, fun nh hnh => ?_⟩
      have u3 := same_new hnh (.tup [V.int p1, V.int (p0 - p0 / p1 * p1)])
      have y3 : upd G2 nh (.tup [V.int p1, V.int (p0 - p0 / p1 * p1)]) nh = some (.tup [V.int p1, V.int (p0 - p0 / p1 * p1)]) := upd_same
      generalize upd G2 nh (.tup [V.int p1, V.int (p0 - p0 / p1 * p1)]) = G3 at *
      have y2' := u3 _ _ y2
      refine ⟨_, rfl, _, rfl, tu, _, 0, _, rfl, rfl, SqT.of y2', at0, _, rfl, tu, _, 1, _, rfl, rfl, SqT.of y2', at1, _, _, rfl, rfl, ⟨Int.ne_of_gt pl, smZ (Int.le_of_lt pl) (by have := si'.z2; omega) szZ⟩, ?_⟩
      have u13 := u1.trans (u2.trans u3)
      refine ⟨⟨sm.trans u13, tu, nh, la', ad, q1, q0 - p0 / p1 * q1, p1, p0 - p0 / p1 * p1, p0 / p1 * a + c, p0 / p1 * b + d, a, b, some (V.ref ad), some (V.ref tu), k', ?_, y2', y3, u13 _ _ g4, (u2.trans u3) _ _ y1, si', by omega, ek⟩, ?_⟩
      · rw [← fdiv_pos pl] <;> rfl
      · rw [muZ_is g1 g2]
        show muZ [some (.ref tu), some (.ref nh), some (.ref la'), some (.ref ad), some (.int (q1.fdiv (q0 - p0 / p1 * q1))), some (.ref ad), some (.ref tu)] G3 < _
        rw [muZ_is y2' y3]
        omega
    · have cc' : ¬ q0 ≤ (p0 / p1 + 1) * q1 := fun z => cc (decide_eq_true z)
      unfold simF at ek
      rw [if_neg cc'] at ek
      refine ⟨_, rfl, _, _, rfl, rfl, _, rfl, _, rfl, p0 / p1 + 1, la', be', a, b, c, d, rfl, g4, g3, szw1, smZ si.ap (by omega) szZ, smZ si.bp (by omega) szZ, fun ad had => ?_⟩
      refine q ad _ (sm.trans (same_new had _)) ?_
      rw [upd_same, so1, so2, ← ek]
  · intro σ H Q Q' hq h
    obtain ⟨v1, e1, x1, y1, f1, f2, v2, e2, p1, xs1, i1, u1, f3, f4, sq1, t1, x2, y2, f5, f6, cnd, v3, e3, p2, xs2, i2, u2, f7, f8, sq2, t2, x3, y3, f9, f10, k, ek, h2⟩ := h
    exact ⟨v1, e1, x1, y1, f1, f2, v2, e2, p1, xs1, i1, u1, f3, f4, sq1, t1, x2, y2, f5, f6, cnd, v3, e3, p2, xs2, i2, u2, f7, f8, sq2, t2, x3, y3, f9, f10, k, ek, hq _ _ h2⟩
theorem fr_abs {r : Rat} {B m : Nat} (h : Ov B r) (hB : 0 < B) (hm : B < 2 ^ m) (h0 : -1 ≤ r) (h1 : r ≤ 1) : Sz m r.num ∧ Sz m (r.den : Int) := by
  by_cases c : 0 ≤ r
  · have z := RSz.of h hB hm c h1
    exact ⟨z.t, z.b⟩
  · have hn : Ov B (-r) := by
      obtain ⟨k, e⟩ := h
      exact ⟨-k, by push_cast; rw [← e]; grind⟩
    have z := RSz.of hn hB hm (by grind) (by grind)
    have e1 : (-r).num = -r.num := Rat.neg_num r
    have e2 : (-r).den = r.den := Rat.neg_den r
    have z1 := z.t
    have z2 := z.b
    rw [e1] at z1
    rw [e2] at z2
    refine ⟨?_, z2⟩
    unfold Sz at z1 ⊢
    omega
theorem den_nat {p : Rat} {m : Nat} (z : Sz m (p.den : Int)) : 0 < p.den ∧ p.den < 2 ^ m := by
  have := p.den_nz
  unfold Sz at z
  omega
theorem half_ov {p f : Rat} (h : Nat) : Ov (p.den * f.den) (f - p) ∧ Ov (p.den * f.den * 2 ^ h) ((f - p) / (2 : Rat) ^ h) ∧ Ov (p.den * f.den * 2 ^ h) (rch p f h) := by
  have a1 : Ov (p.den * f.den) p := (Ov.self p).up (Nat.dvd_mul_right ..)
  have a2 : Ov (p.den * f.den) f := (Ov.self f).up (Nat.dvd_mul_left ..)
  have a3 := a2.sub a1
  have t0 := (two_pow h).1
  have a4 : Ov (p.den * f.den * 2 ^ h) ((f - p) / (2 : Rat) ^ h) := by
    obtain ⟨k, e⟩ := a3
    refine ⟨k, ?_⟩
    rw [← e]
    push_cast
    have : (f - p) / (2 : Rat) ^ h * (2 : Rat) ^ h = f - p := by grind
    rw [← this]
    grind
  exact ⟨a3, a4, (a1.up (Nat.dvd_mul_right ..)).add a4⟩
theorem pow2_lt {x y h : Nat} (hx : x < 2 ^ 20) (hy : y < 2 ^ 20) (h1 : h ≤ 255) : x * y * 2 ^ h < 2 ^ 295 := by
  have e1 : x * y < 2 ^ 20 * 2 ^ 20 := Nat.mul_lt_mul'' hx hy
  have e2 : (2 : Nat) ^ h ≤ 2 ^ 255 := Nat.pow_le_pow_right (by decide) h1
  calc x * y * 2 ^ h ≤ x * y * 2 ^ 255 := Nat.mul_le_mul_left _ e2
    _ < 2 ^ 20 * 2 ^ 20 * 2 ^ 255 := Nat.mul_lt_mul_of_pos_right e1 (Nat.two_pow_pos _)
    _ = 2 ^ 295 := by rw [← Nat.pow_add, ← Nat.pow_add]
theorem sz2 : Sz 2 (2 : Int) := by unfold Sz; decide
noncomputable def spShb : Sp := fun vs H Q _ => ∃ (pa fa : Addr) (p f : Rat) (h : Int), vs = [.ref pa, .ref fa, .int h] ∧ Shp H pa p ∧ Shp H fa f ∧ p ≠ f ∧ Sz 20 (p.den : Int) ∧ Sz 20 (f.den : Int) ∧ 0 ≤ h ∧ h ≤ 255 ∧ ∀ a H', Same H H' → Shp H' a (besR p f h.toNat) → Q (.ref a) H'
theorem sc_shb : FnScope ["at", "far", "halvings", "apart", "reached"] ["at", "far", "halvings"] (defScope s_shb) := ⟨rfl, rfl, rfl, by decide +kernel, rfl, by decide +kernel, by decide +kernel⟩
theorem ok_shb {C : CA} {f : Addr} {fd : FuncData} (F : Fun K "share_beside" "share_beside" s_shb f fd) (T : Txt mg) {fminus : Addr} {dminus : FuncData} (Gminus : FnOk P w K mg base CX0 4 fminus dminus ["one", "other"] spMinus) (bminus : Binds K dminus ["one", "other"] []) (kminus : PySem.W.keepIn K (.ref fminus) = true) (mminus : mg "minus" = some (.ref fminus)) {fplus : Addr} {dplus : FuncData} (Gplus : FnOk P w K mg base CX0 4 fplus dplus ["one", "other"] spPlus) (bplus : Binds K dplus ["one", "other"] []) (kplus : PySem.W.keepIn K (.ref fplus) = true) (mplus : mg "plus" = some (.ref fplus)) {ffrac : Addr} {dfrac : FuncData} (Gfrac : FnOk P w K mg base (CXX P w) 4 ffrac dfrac ["top", "bottom"] (spFrac C)) (bfrac : Binds K dfrac ["top", "bottom"] []) (kfrac : PySem.W.keepIn K (.ref ffrac) = true) (mfrac : mg "fraction" = some (.ref ffrac)) {fpow : Addr} {dpow : FuncData} (Gpow : FnOk P w K mg base CX0 4 fpow dpow ["base", "count"] spPow) (bpow : Binds K dpow ["base", "count"] []) (kpow : PySem.W.keepIn K (.ref fpow) = true) (mpow : mg "power" = some (.ref fpow)) {fund : Addr} {dund : FuncData} (Gund : FnOk P w K mg base CX0 4 fund dund ["one", "other"] spUnd) (bund : Binds K dund ["one", "other"] []) (kund : PySem.W.keepIn K (.ref fund) = true) (mund : mg "under" = some (.ref fund)) {fsim : Addr} {dsim : FuncData} (Gsim : FnOk P w K mg base CX0 4 fsim dsim ["low", "high"] spSim) (bsim : Binds K dsim ["low", "high"] []) (ksim : PySem.W.keepIn K (.ref fsim) = true) (msim : mg "simplest_between" = some (.ref fsim)) : FnOk P w K mg base CX0 5 f fd ["at", "far", "halvings"] spShb := by
  refine F.ok sc_shb (fun vs H Q E h => ?_) (fun cdv A outer s H vs Q E hr h => ?_)
  · obtain ⟨pa, fa, p, f, h, rfl, _⟩ := h
    rfl
  obtain ⟨pa, fa, p, f, h, rfl, sp, sf, hpf, zp, zf, h0, h1, q⟩ := h
  refine ⟨_, (pss_cons (ps_set (i := 3) sc_shb.nd rfl (Or.inl rfl) (pe_call Gminus hr rfl mminus kminus bminus .nil pass0 (pa_cons (pv 1) (pa_cons (pv 0) pa_nil))))
    (pss_cons (ps_set (i := 4) sc_shb.nd rfl (Or.inl rfl) (pe_call Gplus hr rfl mplus kplus bplus .nil pass0 (pa_cons (pv 0) (pa_cons (pe_call Gfrac hr rfl mfrac kfrac bfrac .nil passN (pa_cons (pe_ix ix_tup (pv 3) pe_int (fun _ _ => rfl)) (pa_cons (pe_op op_mulK (pe_ix ix_tup (pv 3) pe_int (fun _ _ => rfl)) (pe_call Gpow hr rfl mpow kpow bpow .nil pass0 (pa_cons pe_int (pa_cons (pv 2) pa_nil)))) pa_nil))) pa_nil))))
    (pss_cons (ps_if (pt_val (pe_call Gund hr rfl mund kund bund .nil pass0 (pa_cons (pv 0) (pa_cons (pv 4) pa_nil)))) (pss_one (ps_ret (pe_call Gsim hr rfl msim ksim bsim .nil pass0 (pa_cons (pv 0) (pa_cons (pv 4) pa_nil))))) pss_nil)
    (pss_one (ps_ret (pe_call Gsim hr rfl msim ksim bsim .nil pass0 (pa_cons (pv 4) (pa_cons (pv 0) pa_nil)))))))), ?_⟩
  obtain ⟨dp, lp⟩ := den_nat zp
  obtain ⟨df, lf⟩ := den_nat zf
  have B0 : 0 < p.den * f.den * 2 ^ h.toNat := Nat.mul_pos (Nat.mul_pos dp df) (Nat.two_pow_pos _)
  have BL := pow2_lt lp lf (show h.toNat ≤ 255 by omega)
  have B1 : p.den * f.den < 2 ^ 295 := Nat.lt_of_le_of_lt (Nat.le_mul_of_pos_right _ (Nat.two_pow_pos h.toNat)) BL
  obtain ⟨o1, o2, o3⟩ := half_ov (p := p) (f := f) h.toNat
  have plo := sp.lo
  have phi := sp.hi
  have flo := sf.lo
  have fhi := sf.hi
  obtain ⟨i1, i2⟩ := rch_in (p := p) (f := f) h.toNat
  have rcu : 0 ≤ rch p f h.toNat ∧ rch p f h.toNat ≤ 1 := by
    by_cases c : p < f
    · have := i1 c; grind
    · have := i2 (by grind); grind
  have z1 := fr_abs o1 (Nat.mul_pos dp df) B1 (by grind) (by grind)
  have hal : -1 ≤ (f - p) / (2 : Rat) ^ h.toNat ∧ (f - p) / (2 : Rat) ^ h.toNat ≤ 1 := by
    have : rch p f h.toNat = p + (f - p) / (2 : Rat) ^ h.toNat := rfl
    grind
  have z2 := fr_abs o2 B0 BL hal.1 hal.2
  have z3 := fr_abs o3 B0 BL (by grind) rcu.2
  refine ⟨_, rfl, _, rfl, fa, pa, f, p, rfl, sf.fr, sp.fr, fun ap H1 s1 hap => ?_⟩
  have e2 : (2 : Int) ^ h.toNat = ((2 ^ h.toNat : Nat) : Int) := by push_cast; rfl
  have sz2h : Sz 512 ((2 : Int) ^ h.toNat) := by
    have := sz2.powN h.toNat
    exact this.mono (by omega)
  have hb : (0 : Int) < ((f - p).den : Int) * (2 : Int) ^ h.toNat := Int.mul_pos (rden _) (Int.pow_pos (by decide))
  refine ⟨_, rfl, _, rfl, ap, _, 0, _, rfl, rfl, SqT.of hap, at0, _, rfl, ap, _, 1, _, rfl, rfl, SqT.of hap, at1, _, rfl, 2, h, 2, rfl, sz2, h0, by omega, by decide, by omega, ?_⟩
  refine ⟨_, _, rfl, rfl, ⟨z1.2.smk (by decide), sz2h.smk (by decide)⟩, ?_⟩
  have er : (f - p) / (2 : Rat) ^ h.toNat * (((((f - p).den : Int) * (2 : Int) ^ h.toNat : Int)) : Rat) = (((f - p).num : Int) : Rat) := by
    have s := rsplit (f - p)
    have t0 := (two_pow h.toNat).1
    have : (f - p) / (2 : Rat) ^ h.toNat * (2 : Rat) ^ h.toNat = f - p := by grind
    push_cast
    rw [← s]
    generalize (f - p) / (2 : Rat) ^ h.toNat = y at *
    grind
  refine ⟨_, _, .int _, .int _, rfl, rfl, rfl, fun t0 b0 e => ?_, fun e => ?_⟩
  rotate_left
  · rw [frOk_yes (Int.ne_of_gt hb)] at e; cases e
  obtain ⟨y1, y2, _⟩ := frOk_shape e
  cases y1
  cases y2
  refine ⟨(z1.2.mul sz2h).smk (by decide), fun hf hhf0 => ?_⟩
  have s2 := same_new hhf0 (.tup [V.int (frT (f - p).num (((f - p).den : Int) * 2 ^ h.toNat)), V.int (frB (f - p).num (((f - p).den : Int) * 2 ^ h.toNat))])
  have hhf : upd H1 hf (.tup [V.int (frT (f - p).num (((f - p).den : Int) * 2 ^ h.toNat)), V.int (frB (f - p).num (((f - p).den : Int) * 2 ^ h.toNat))]) hf = some (.tup [.int ((f - p) / (2 : Rat) ^ h.toNat).num, .int (((f - p) / (2 : Rat) ^ h.toNat).den : Int)]) := by
    obtain ⟨f1, f2⟩ := fr_rat (Int.ne_of_gt hb) er
    rw [upd_same, f1, f2]
  generalize upd H1 hf (.tup [V.int (frT (f - p).num (((f - p).den : Int) * 2 ^ h.toNat)), V.int (frB (f - p).num (((f - p).den : Int) * 2 ^ h.toNat))]) = H2 at *
  refine ⟨pa, hf, p, _, rfl, (sp.keep (s1.trans s2)).fr, ⟨hhf, z2.1.mono (by decide), z2.2.mono (by decide)⟩, fun rc H3 s3 hrc => ?_⟩
  have s13 := s1.trans (s2.trans s3)
  have hrc' : H3 rc = some (.tup [.int (rch p f h.toNat).num, .int ((rch p f h.toNat).den : Int)]) := hrc
  have sp3 := sp.keep s13
  refine ⟨_, rfl, _, rfl, pa, rc, p, rch p f h.toNat, rfl, sp3.fr, ⟨hrc', z3.1.mono (by decide), z3.2.mono (by decide)⟩, _, rfl, ?_⟩
  have fin : ∀ a H', Same H3 H' → H' a = some (.tup [.int (besR p f h.toNat).num, .int ((besR p f h.toNat).den : Int)]) → Q (.ref a) H' := fun a H' sm e => by
    refine q a H' (s13.trans sm) ⟨e, ?_, ?_, ?_⟩
    · have b := bes_in plo flo h.toNat
      by_cases c : p < f
      · have := b.1 c; grind
      · have := b.2 (by grind); grind
    · have b := bes_in plo flo h.toNat
      by_cases c : p < f
      · have := b.1 c; grind
      · have := b.2 (by grind); grind
    · have b := bes_den plo flo hpf h.toNat
      have zz : Sz 296 ((p.den : Int) + ((rch p f h.toNat).den : Int)) := (zp.mono (by decide)).add z3.2
      have := rden (besR p f h.toNat)
      unfold Sz at zz ⊢
      exact Nat.lt_of_lt_of_le (Nat.lt_of_le_of_lt (by omega) zz) (Nat.pow_le_pow_right (by decide) (by decide))
  by_cases c : p < rch p f h.toNat
  · rw [decide_eq_true c]
    refine iteT ⟨_, rfl, _, rfl, pa, rc, p, rch p f h.toNat, rfl, sp3.ob, hrc', plo, c, rcu.2, zp.mono (by decide), z3.2.mono (by decide), fun a H' sm e => ?_⟩
    have eb : besR p f h.toNat = simR p (rch p f h.toNat) := if_pos c
    exact fin a H' sm (by rw [eb]; exact e)
  · rw [decide_eq_false c]
    have c' : rch p f h.toNat < p := by
      by_cases d : p < f
      · exact absurd (i1 d).1 c
      · exact (i2 (by grind)).2
    refine iteF ⟨_, rfl, _, rfl, rc, pa, rch p f h.toNat, p, rfl, hrc', sp3.ob, rcu.1, c', phi, z3.2.mono (by decide), zp.mono (by decide), fun a H' sm e => ?_⟩
    have eb : besR p f h.toNat = simR (rch p f h.toNat) p := if_neg c
    exact fin a H' sm (by rw [eb]; exact e)
noncomputable def spLks : Sp := fun vs H Q _ => ∃ (x sa a : Addr) (n : Nat) (ps : List (Rat × Rat)) (s p : Rat), vs = [.ref x, .ref sa, .ref a] ∧ RuleAt H x n ps ∧ FrA H sa s ∧ Shp H a p ∧ ∀ H', Same H H' → Q (.bl (decide (rsumO p n (runOf ps p p) < s))) H'
theorem sc_lks : FnScope ["rule", "share", "p"] ["rule", "share", "p"] (defScope s_lks) := ⟨rfl, rfl, rfl, by decide +kernel, rfl, by decide +kernel, by decide +kernel⟩
theorem ok_lks {f : Addr} {fd : FuncData} (F : Fun K "lacks" "lacks" s_lks f fd) (T : Txt mg) {fcov : Addr} {dcov : FuncData} (Gcov : FnOk P w K mg base CX0 6 fcov dcov ["rule", "p"] spCov) (bcov : Binds K dcov ["rule", "p"] []) (kcov : PySem.W.keepIn K (.ref fcov) = true) (mcov : mg "cover" = some (.ref fcov)) {fund : Addr} {dund : FuncData} (Gund : FnOk P w K mg base CX0 6 fund dund ["one", "other"] spUnd) (bund : Binds K dund ["one", "other"] []) (kund : PySem.W.keepIn K (.ref fund) = true) (mund : mg "under" = some (.ref fund)) : FnOk P w K mg base CX0 7 f fd ["rule", "share", "p"] spLks := by
  refine F.ok sc_lks (fun vs H Q E h => ?_) (fun cdv A outer s H vs Q E hr h => ?_)
  · obtain ⟨x, sa, a, n, ps, s, p, rfl, _⟩ := h
    rfl
  obtain ⟨x, sa, a, n, ps, sh, p, rfl, hx, fs, sp, q⟩ := h
  refine ⟨_, (pss_one (ps_ret (pe_call Gund hr rfl mund kund bund .nil pass0 (pa_cons (pe_call Gcov hr rfl mcov kcov bcov .nil pass0 (pa_cons (pv 0) (pa_cons (pv 2) pa_nil))) (pa_cons (pv 1) pa_nil))))), ?_⟩
  refine ⟨_, rfl, _, rfl, x, n, ps, a, p, rfl, hx, sp, fun f H1 s1 hf => ?_⟩
  exact ⟨_, rfl, f, sa, _, _, rfl, fr_rsumO sp hx.ok.n12 hf, fs.keep s1, q _ s1⟩
noncomputable def fstL (E : Nat → Bool) : Nat → Int → Int → Int × Int
  | 0, tf, en => (tf, en)
  | k + 1, tf, en => if E en.toNat = true then (tf, en) else fstL E k en (2 * en + 1)
noncomputable def bsrL (E : Nat → Bool) : Nat → Int → Int → Int
  | 0, _, en => en
  | k + 1, tf, en => if 1 < en - tf then (if E ((tf + en) / 2).toNat = true then bsrL E k tf ((tf + en) / 2) else bsrL E k ((tf + en) / 2) en) else en
noncomputable def lackH (E : Nat → Bool) : Nat := (bsrL E 300 (fstL E 10 (-1) 0).1 (fstL E 10 (-1) 0).2).toNat
noncomputable def muL (σ : St) : Nat := match σ with
  | _ :: _ :: _ :: _ :: _ :: some (.int y) :: _ => (300 - y).toNat
  | _ => 0
noncomputable def muM (σ : St) : Nat := match σ with
  | _ :: _ :: _ :: _ :: some (.int x) :: some (.int y) :: _ => (y - x).toNat
  | _ => 0
noncomputable def covE (n : Nat) (ps : List (Rat × Rat)) (s p f : Rat) (h : Nat) : Bool := decide (rsumO (besR p f h) n (runOf ps (besR p f h) (besR p f h)) < s)
noncomputable def spLack : Sp := fun vs H Q _ => ∃ (x sa pa fa : Addr) (n : Nat) (ps : List (Rat × Rat)) (s p f : Rat), vs = [.ref x, .ref sa, .ref pa, .ref fa] ∧ RuleAt H x n ps ∧ FrA H sa s ∧ Shp H pa p ∧ Shp H fa f ∧ p ≠ f ∧ Sz 20 (p.den : Int) ∧ Sz 20 (f.den : Int) ∧ covE n ps s p f 255 = true ∧
  ∀ a H', Same H H' → covE n ps s p f (lackH (covE n ps s p f)) = true → Shp H' a (besR p f (lackH (covE n ps s p f))) → Q (.ref a) H'
theorem two_i {i : Nat} (h : i ≤ 8) : (2 : Int) ^ i - 1 ≤ 255 ∧ 0 ≤ (2 : Int) ^ i - 1 ∧ (i = 8 → (2 : Int) ^ i - 1 = 255) := by
  match i, h with
  | 0, _ => decide
  | 1, _ => decide
  | 2, _ => decide
  | 3, _ => decide
  | 4, _ => decide
  | 5, _ => decide
  | 6, _ => decide
  | 7, _ => decide
  | 8, _ => decide
theorem sc_lack : FnScope ["rule", "share", "at", "far", "too_few", "enough", "middle"] ["rule", "share", "at", "far"] (defScope s_lack) := ⟨rfl, rfl, rfl, by decide +kernel, rfl, by decide +kernel, by decide +kernel⟩
theorem ok_lack {f : Addr} {fd : FuncData} (F : Fun K "share_lacking" "share_lacking" s_lack f fd) (T : Txt mg) {flks : Addr} {dlks : FuncData} (Glks : FnOk P w K mg base CX0 7 flks dlks ["rule", "share", "p"] spLks) (blks : Binds K dlks ["rule", "share", "p"] []) (klks : PySem.W.keepIn K (.ref flks) = true) (mlks : mg "lacks" = some (.ref flks)) {fshb : Addr} {dshb : FuncData} (Gshb : FnOk P w K mg base CX0 7 fshb dshb ["at", "far", "halvings"] spShb) (bshb : Binds K dshb ["at", "far", "halvings"] []) (kshb : PySem.W.keepIn K (.ref fshb) = true) (mshb : mg "share_beside" = some (.ref fshb)) : FnOk P w K mg base CX0 8 f fd ["rule", "share", "at", "far"] spLack := by
  refine F.ok sc_lack (fun vs H Q E h => ?_) (fun cdv A outer s H vs Q E hr h => ?_)
  · obtain ⟨x, sa, pa, fa, n, ps, s, p, f, rfl, _⟩ := h
    rfl
  obtain ⟨x, sa, pa, fa, n, ps, sh, p, f, rfl, hx, fs, sp, sf, hpf, zp, zf, h255, q⟩ := h
  refine ⟨_, (pss_cons (ps_set (i := 4) sc_lack.nd rfl (Or.inl rfl) (pe_un un_neg pe_int))
    (pss_cons (ps_set (i := 5) sc_lack.nd rfl (Or.inl rfl) pe_int)
    (pss_cons (ps_while PassesOwn.never (pt_not (pt_val (pe_call Glks hr rfl mlks klks blks .nil pass0 (pa_cons (pv 0) (pa_cons (pv 1) (pa_cons (pe_call Gshb hr rfl mshb kshb bshb .nil pass0 (pa_cons (pv 2) (pa_cons (pv 3) (pa_cons (pv 5) pa_nil)))) pa_nil)))))) (pss_cons (ps_set (i := 4) sc_lack.nd rfl (Or.inl rfl) (pv 5))
      (pss_one (ps_set (i := 5) sc_lack.nd rfl (Or.inl rfl) (pe_op op_add (pe_op op_mul pe_int (pv 5)) pe_int)))))
    (pss_cons (ps_while PassesOwn.never (pt_cmpR op_gt (pe_op op_sub (pv 5) (pv 4)) pe_int (nomark _)) (pss_cons (ps_set (i := 6) sc_lack.nd rfl (Or.inl rfl) (pe_op op_fdiv (pe_op op_add (pv 4) (pv 5)) pe_int))
      (pss_one (ps_if (pt_val (pe_call Glks hr rfl mlks klks blks .nil pass0 (pa_cons (pv 0) (pa_cons (pv 1) (pa_cons (pe_call Gshb hr rfl mshb kshb bshb .nil pass0 (pa_cons (pv 2) (pa_cons (pv 3) (pa_cons (pv 6) pa_nil)))) pa_nil))))) (pss_one (ps_set (i := 5) sc_lack.nd rfl (Or.inl rfl) (pv 6))) (pss_one (ps_set (i := 4) sc_lack.nd rfl (Or.inl rfl) (pv 6)))))))
    (pss_one (ps_ret (pe_call Gshb hr rfl mshb kshb bshb .nil pass0 (pa_cons (pv 2) (pa_cons (pv 3) (pa_cons (pv 5) pa_nil)))))))))), ?_⟩
  have one : ∀ (h : Int), covE n ps sh p f h.toNat = decide (rsumO (besR p f h.toNat) n (runOf ps (besR p f h.toNat) (besR p f h.toNat)) < sh) := fun h => rfl
  generalize hE : covE n ps sh p f = Ec at *
  refine ⟨_, rfl, ?_⟩
  dsimp only
  refine seq_by (fun σ G => G = H ∧ σ = [some (.ref x), some (.ref sa), some (.ref pa), some (.ref fa), some (.int (-1)), some (.int 0), none]) (fun M hM => hM _ _ ⟨rfl, rfl⟩) ?_
  rintro σ G ⟨rfl, rfl⟩
  refine seq_by (fun σ G' => Same G G' ∧ ∃ (tf en : Int) (v6 : Option V), σ = [some (.ref x), some (.ref sa), some (.ref pa), some (.ref fa), some (.int tf), some (.int en), v6] ∧ -1 ≤ tf ∧ tf < en ∧ en ≤ 255 ∧ Ec en.toNat = true ∧ fstL Ec 10 (-1) 0 = (tf, en)) ?_ ?_
  · intro M hM
    refine while_by (fun σ G' => Same G G' ∧ ∃ (tf en : Int) (v6 : Option V) (i : Nat), σ = [some (.ref x), some (.ref sa), some (.ref pa), some (.ref fa), some (.int tf), some (.int en), v6] ∧ -1 ≤ tf ∧ tf < en ∧ i ≤ 8 ∧ en = 2 ^ i - 1 ∧ fstL Ec (10 - i) tf en = fstL Ec 10 (-1) 0) (fun σ _ => muL σ) ⟨Same.refl G, -1, 0, none, 0, rfl, by decide, by decide, by decide, by decide, rfl⟩ ?_ ?_
    · rintro σ G1 ⟨sm, tf, en, v6, i, rfl, t0, t1, i8, een, ef⟩
      obtain ⟨b1, b2, b3⟩ := two_i i8
      refine ⟨_, rfl, _, rfl, _, rfl, _, rfl, _, rfl, pa, fa, p, f, en, rfl, sp.keep sm, sf.keep sm, hpf, zp, zf, by omega, by omega, fun a H1 s1 sh1 => ?_⟩
      refine ⟨x, sa, a, n, ps, sh, _, rfl, hx.keep (sm.trans s1), fs.keep (sm.trans s1), sh1, fun H2 s2 => ⟨_, rfl, ?_⟩⟩
      rw [← one en]
      obtain ⟨k, ek⟩ : ∃ k, 10 - i = k + 1 := ⟨9 - i, by omega⟩
      rw [ek] at ef
      unfold fstL at ef
      cases c : Ec en.toNat with
      | true =>
        rw [if_pos c] at ef
        exact iteF (hM _ _ ⟨sm.trans (s1.trans s2), tf, en, v6, rfl, t0, t1, by omega, c, ef.symm⟩)
      | false =>
        rw [if_neg (by rw [c]; exact Bool.false_ne_true)] at ef
        have i7 : i ≠ 8 := fun z => by
          have e : en = 255 := by rw [een]; exact b3 z
          rw [e] at c
          have : Ec 255 = false := c
          rw [h255] at this
          cases this
        refine iteT ⟨_, rfl, _, rfl, _, _, rfl, rfl, .inl ⟨by decide, by decide⟩, _, _, rfl, rfl, ?_⟩
        refine ⟨⟨sm.trans (s1.trans s2), en, 2 * en + 1, v6, i + 1, rfl, by omega, by omega, by omega, ?_, ?_⟩, ?_⟩
        · rw [een, Int.pow_succ]; omega
        · rw [show 10 - (i + 1) = k by omega]; exact ef
        · show (300 - (2 * en + 1)).toNat < (300 - en).toNat
          omega
    · intro σ H Q Q' hq h
      obtain ⟨v1, e1, v2, e2, v3, e3, v4, e4, v5, e5, pa, fa, p, f, hh, ev, a1, a2, a3, a4, a5, a6, a7, qq⟩ := h
      refine ⟨v1, e1, v2, e2, v3, e3, v4, e4, v5, e5, pa, fa, p, f, hh, ev, a1, a2, a3, a4, a5, a6, a7, fun a H' sm sh => ?_⟩
      obtain ⟨x', sa', a', n', ps', s', p', ev', b1, b2, b3, q'⟩ := qq a H' sm sh
      refine ⟨x', sa', a', n', ps', s', p', ev', b1, b2, b3, fun H2 s2 => ?_⟩
      obtain ⟨k, ek, hk⟩ := q' H2 s2
      exact ⟨k, ek, hq _ _ hk⟩
  rintro σ G1 ⟨sm, tf0, en0, v6, rfl, t0, t1, t2, te, efs⟩
  have eL : lackH Ec = (bsrL Ec 300 tf0 en0).toNat := by unfold lackH; rw [efs]
  refine seq_by (fun σ G' => Same G G' ∧ ∃ (tf en : Int) (v6 : Option V), σ = [some (.ref x), some (.ref sa), some (.ref pa), some (.ref fa), some (.int tf), some (.int en), v6] ∧ 0 ≤ en ∧ en ≤ 255 ∧ Ec en.toNat = true ∧ lackH Ec = en.toNat) ?_ ?_
  · intro M hM
    refine while_by (fun σ G' => Same G G' ∧ ∃ (tf en : Int) (v6 : Option V) (k : Nat), σ = [some (.ref x), some (.ref sa), some (.ref pa), some (.ref fa), some (.int tf), some (.int en), v6] ∧ -1 ≤ tf ∧ tf < en ∧ en ≤ 255 ∧ Ec en.toNat = true ∧ (en - tf).toNat < k ∧ (bsrL Ec k tf en).toNat = lackH Ec) (fun σ _ => muM σ) ⟨sm, tf0, en0, v6, 300, rfl, t0, t1, t2, te, by omega, eL.symm⟩ ?_ ?_
    · rintro σ G2 ⟨sm, tf, en, v6, k, rfl, t0, t1, t2, te, hk, ek⟩
      obtain ⟨k', rfl⟩ : ∃ k', k = k' + 1 := ⟨k - 1, by omega⟩
      unfold bsrL at ek
      refine ⟨_, rfl, _, rfl, _, _, rfl, rfl, _, _, rfl, rfl, _, rfl, ?_⟩
      refine ite2 (fun c1 => ?_) (fun c1 => ?_)
      · have c2 : 1 < en - tf := of_decide_eq_true c1
        rw [if_pos c2] at ek
        refine ⟨_, rfl, _, rfl, _, _, rfl, rfl, _, _, rfl, rfl, ⟨by decide, by decide⟩, ?_⟩
        have m1 : tf < (tf + en) / 2 ∧ (tf + en) / 2 < en := by omega
        refine ⟨_, rfl, _, rfl, _, rfl, _, rfl, _, rfl, pa, fa, p, f, (tf + en) / 2, rfl, sp.keep sm, sf.keep sm, hpf, zp, zf, by omega, by omega, fun a H1 s1 sh1 => ?_⟩
        refine ⟨x, sa, a, n, ps, sh, _, rfl, hx.keep (sm.trans s1), fs.keep (sm.trans s1), sh1, fun H2 s2 => ⟨_, rfl, ?_⟩⟩
        rw [← one ((tf + en) / 2)]
        cases c : Ec ((tf + en) / 2).toNat with
        | true =>
          rw [if_pos c] at ek
          refine iteT ⟨_, rfl, ⟨sm.trans (s1.trans s2), tf, (tf + en) / 2, some (.int ((tf + en) / 2)), k', rfl, by omega, by omega, by omega, c, by omega, ek⟩, ?_⟩
          show ((tf + en) / 2 - tf).toNat < (en - tf).toNat
          omega
        | false =>
          rw [if_neg (by rw [c]; exact Bool.false_ne_true)] at ek
          refine iteF ⟨_, rfl, ⟨sm.trans (s1.trans s2), (tf + en) / 2, en, some (.int ((tf + en) / 2)), k', rfl, by omega, by omega, by omega, te, by omega, ek⟩, ?_⟩
          show (en - (tf + en) / 2).toNat < (en - tf).toNat
          omega
      · have c2 : ¬ 1 < en - tf := fun z => c1 (decide_eq_true z)
        rw [if_neg c2] at ek
        exact hM _ _ ⟨sm, tf, en, v6, rfl, by omega, by omega, te, ek.symm⟩
    · intro σ H Q Q' hq h
      obtain ⟨v1, e1, v2, e2, x, y, ex, ey, z, w', ez, ew, k, ek, h2⟩ := h
      exact ⟨v1, e1, v2, e2, x, y, ex, ey, z, w', ez, ew, k, ek, hq _ _ h2⟩
  rintro σ G2 ⟨sm, tf, en, v6, rfl, n0, n1, te, eL2⟩
  refine ⟨_, rfl, _, rfl, _, rfl, pa, fa, p, f, en, rfl, sp.keep sm, sf.keep sm, hpf, zp, zf, n0, n1, fun a H1 s1 sh1 => ?_⟩
  rw [← eL2] at sh1 te
  exact q a H1 (sm.trans s1) te sh1
noncomputable def spStream : Sp := fun vs H Q _ => ∃ (c salt : Int) (m : Nat), vs = [.int c, .int salt, .int m] ∧ 0 ≤ salt ∧ salt ≤ 100 ∧ m ≤ 10 ∧ ∀ (l : Addr) (H' : Hp) (xs : List Int), H l = none → Same H H' → H' l = some (.lst (xs.map V.int)) → xs.length = m → (∀ x ∈ xs, 0 ≤ x ∧ x < 2147483647) → Q (.ref l) H'
theorem sc_stream : FnScope ["_law_cell", "_law_salt", "_law_many", "_law_found", "_law_number", "_law_k"] ["_law_cell", "_law_salt", "_law_many"] (defScope s_stream) := ⟨rfl, rfl, rfl, by decide +kernel, rfl, by decide +kernel, by decide +kernel⟩
theorem ok_stream {f : Addr} {fd : FuncData} (F : Fun K "_law_stream" "_law_stream" s_stream f fd) (T : Txt mg) : FnOk P w K mg base CX0 1 f fd ["_law_cell", "_law_salt", "_law_many"] spStream := by
  refine F.ok sc_stream (fun vs H Q E h => ?_) (fun cdv A outer s H vs Q E hr h => ?_)
  · obtain ⟨c, salt, m, rfl, _⟩ := h
    rfl
  obtain ⟨c, salt, m, rfl, s0, s1, hm, q⟩ := h
  refine ⟨_, (pss_cons (ps_set (i := 3) sc_stream.nd rfl (Or.inl rfl) (pe_lst pa_nil))
    (pss_cons (ps_set (i := 4) sc_stream.nd rfl (Or.inl rfl) (pe_op op_mod (pe_op op_add (pe_op op_add (pe_op op_mul (pe_op op_mod (pv 0) pe_int) pe_int) (pe_op op_mul (pe_op op_mul (pv 1) (pv 1)) pe_int)) pe_int) pe_int))
    (pss_cons (ps_for PassesOwn.never rfl (pi_range1 rfl T.range (pa_cons (pv 2) pa_nil)) (pg_name (i := 5) sc_stream.nd rfl (Or.inl rfl)) (pss_cons (ps_set (i := 4) sc_stream.nd rfl (Or.inl rfl) (pe_op op_mod (pe_op op_add (pe_op op_add (pe_op op_add (pe_op op_mul (pv 4) (pv 4)) (pe_op op_mul pe_int (pv 4))) (pv 5)) (pv 1)) pe_int))
      (pss_one (ps_expr (pe_bm PySem.F.plainAttrs_list PySem.F.slot_list_append PySem.F.type_list_append mt_append (pv 3) (pa_cons (pv 4) pa_nil))))))
    (pss_one (ps_ret (pv 3)))))), ?_⟩
  have M0 : (0 : Int) < 2147483647 := by decide
  refine ⟨Nat.zero_le _, fun l hl => ?_⟩
  refine ⟨_, rfl, _, _, rfl, rfl, M0, _, _, rfl, rfl, .inr ⟨by decide, by decide⟩, _, rfl, _, rfl, _, _, rfl, rfl, .inl ⟨by omega, by omega⟩, _, _, rfl, rfl, .inr ⟨by decide, by decide⟩, _, _, rfl, rfl, _, _, rfl, rfl, _, _, rfl, rfl, M0, ?_⟩
  refine ⟨_, rfl, _, rfl, by omega, by omega, ?_⟩
  have em : ((m : Int)).toNat = m := rfl
  rw [em]
  refine for_range (lo := 0) (fun i σ H' => Same H H' ∧ ∃ (xs : List Int) (x : Int) (v : Option V), σ = [some (.int c), some (.int salt), some (.int m), some (.ref l), some (.int x), v] ∧ 0 ≤ x ∧ x < 2147483647 ∧ H' l = some (.lst (xs.map V.int)) ∧ xs.length = i ∧ ∀ x ∈ xs, 0 ≤ x ∧ x < 2147483647)
    ⟨same_new hl _, [], _, none, rfl, md0 _ M0, md1 _ M0, upd_same, rfl, fun x hx => by cases hx⟩ ?_ ?_
  · rintro i σ H1 hi ⟨sm, xs, x, v, rfl, x0, x1, e, hx, hall⟩
    refine ⟨_, rfl, _, rfl, _, _, rfl, rfl, .inl ⟨by omega, by omega⟩, _, rfl, _, _, rfl, rfl, .inl ⟨by decide, by decide⟩, _, _, rfl, rfl, _, rfl, _, _, rfl, rfl, _, rfl, _, _, rfl, rfl, _, _, rfl, rfl, M0, ?_⟩
    refine ⟨_, rfl, .inl ⟨rfl, _, SqL.of e⟩, _, rfl, l, _, _, rfl, rfl, e, ?_, ?_⟩
    · rw [List.length_map, hx]; unfold sizeLine; omega
    refine ⟨fun b o eb => by rw [upd_ne (ne_of_none eb hl)]; exact sm b o eb, xs ++ [(x * x + 48271 * x + (0 + (i : Int)) + salt) % 2147483647], _, _, rfl, md0 _ M0, md1 _ M0, ?_, by simp [hx], ?_⟩
    · rw [upd_same, List.map_append] <;> rfl
    · intro y hy
      rcases List.mem_append.mp hy with hy | hy
      · exact hall y hy
      · rw [List.mem_singleton.mp hy]
        exact ⟨md0 _ M0, md1 _ M0⟩
  · rintro σ H1 ⟨sm, xs, x, v, rfl, x0, x1, e, hx, hall⟩
    exact ⟨_, rfl, q l H1 xs hl sm e hx hall⟩
structure Fq (H : Hp) (f : Addr) (r : Rat) : Prop where
  ob : ∃ t b : Int, H f = some (.tup [.int t, .int b]) ∧ 0 < b ∧ r * (b : Rat) = (t : Rat) ∧ Smk t ∧ Smk b
theorem Fq.keep {H H' : Hp} {f : Addr} {r : Rat} (h : Fq H f r) (s : Same H H') : Fq H' f r := by
  obtain ⟨t, b, e, h1, h2, h3, h4⟩ := h.ob
  exact ⟨t, b, s _ _ e, h1, h2, h3, h4⟩
theorem Shp.fq {H : Hp} {a : Addr} {r : Rat} (h : Shp H a r) : Fq H a r := ⟨_, _, h.ob, rden r, by have := rsplit r; rw [Rat.intCast_natCast]; exact this, h.sn.smk (by decide), h.sz.smk (by decide)⟩
theorem fq_le {t1 b1 t2 b2 : Int} {r s : Rat} (p1 : 0 < b1) (p2 : 0 < b2) (e1 : r * (b1 : Rat) = (t1 : Rat)) (e2 : s * (b2 : Rat) = (t2 : Rat)) : t1 * b2 ≤ t2 * b1 ↔ r ≤ s := by
  have q1 : (0 : Rat) < (b1 : Rat) := by exact_mod_cast p1
  have q2 : (0 : Rat) < (b2 : Rat) := by exact_mod_cast p2
  have q3 := Rat.mul_pos q1 q2
  have c1 : ((t1 * b2 : Int) : Rat) = ((b1 : Rat) * (b2 : Rat)) * r := by rw [Rat.intCast_mul, ← e1]; grind
  have c2 : ((t2 * b1 : Int) : Rat) = ((b1 : Rat) * (b2 : Rat)) * s := by rw [Rat.intCast_mul, ← e2]; grind
  rw [← Rat.intCast_le_intCast, c1, c2]
  constructor
  · intro h
    by_cases c : r ≤ s
    · exact c
    · have := Rat.mul_pos q3 (show 0 < r - s by grind)
      grind
  · intro h
    exact rle h (by grind)
noncomputable def spNm : Sp := fun vs H Q _ => ∃ f g r s, vs = [.ref f, .ref g] ∧ Fq H f r ∧ Fq H g s ∧ Q (.bl (decide (r ≤ s))) H
theorem sc_nm : FnScope ["_law_one", "_law_other"] ["_law_one", "_law_other"] (defScope s_nm) := ⟨rfl, rfl, rfl, by decide +kernel, rfl, by decide +kernel, by decide +kernel⟩
theorem ok_nm {f : Addr} {fd : FuncData} (F : Fun K "_law_no_more" "_law_no_more" s_nm f fd) (T : Txt mg) : FnOk P w K mg base CX0 1 f fd ["_law_one", "_law_other"] spNm := by
  refine F.ok sc_nm (fun vs H Q E h => ?_) (fun cdv A outer s H vs Q E hr h => ?_)
  · obtain ⟨f, g, r, s, rfl, _⟩ := h
    rfl
  obtain ⟨f, g, r, s, rfl, ⟨t1, b1, o1, p1, e1, z1, z2⟩, ⟨t2, b2, o2, p2, e2, z3, z4⟩, q⟩ := h
  refine ⟨_, (pss_one (ps_ret (pe_cmpR op_le (pe_op op_mulK (pe_ix ix_tup (pv 0) pe_int (fun _ _ => rfl)) (pe_ix ix_tup (pv 1) pe_int (fun _ _ => rfl))) (pe_op op_mulK (pe_ix ix_tup (pv 1) pe_int (fun _ _ => rfl)) (pe_ix ix_tup (pv 0) pe_int (fun _ _ => rfl))) (nomark _)))), ?_⟩
  refine ⟨_, rfl, f, _, 0, _, rfl, rfl, SqT.of o1, at0, _, rfl, g, _, 1, _, rfl, rfl, SqT.of o2, at1, _, _, rfl, rfl, ⟨z1, z4⟩, _, rfl, g, _, 0, _, rfl, rfl, SqT.of o2, at0, _, rfl, f, _, 1, _, rfl, rfl, SqT.of o1, at1, _, _, rfl, rfl, ⟨z3, z2⟩, _, _, rfl, rfl, ?_⟩
  have e := fq_le p1 p2 e1 e2
  have e' : decide (t1 * b2 ≤ t2 * b1) = decide (r ≤ s) := by
    by_cases c : r ≤ s
    · rw [decide_eq_true c, decide_eq_true (e.mpr c)]
    · rw [decide_eq_false c, decide_eq_false fun z => c (e.mp z)]
  show Q (.bl (decide (t1 * b2 ≤ t2 * b1))) H
  rw [e']
  exact q
noncomputable def spOrd (K : PySem.W.Frag) : Sp := fun vs H Q _ => ∃ (a : Addr) (xs : List V) (rs : List Rat), vs = [.ref a] ∧ H a = some (.lst xs) ∧ ShL H rs xs ∧ rs.length ≤ 40 ∧ ∀ (l : Addr) (H' : Hp) (ys : List V), Same H H' → H' l = some (.lst ys) → ShL H' (Gc.ord rs) ys → Q (.ref l) H'
noncomputable def ratAt (H : Hp) : V → Rat
  | .ref a => match H a with
    | some (.tup [.int n, .int d]) => rq n d
    | _ => 0
  | _ => 0
theorem rq_self (r : Rat) : rq r.num (r.den : Int) = r := by
  have s := rsplit r
  have d := rdenQ r
  unfold rq
  have e : (((r.den : Int)) : Rat) = (r.den : Rat) := by push_cast; rfl
  rw [e]
  generalize (r.num : Rat) = x at *
  generalize (r.den : Rat) = y at *
  grind
theorem Shp.rat {H : Hp} {a : Addr} {r : Rat} (h : Shp H a r) : ratAt H (.ref a) = r := by
  show (match H a with | some (.tup [.int n, .int d]) => rq n d | _ => 0) = r
  rw [h.ob]
  exact rq_self r
theorem ShL.cnt {H : Hp} {r : Rat} : ∀ {rs : List Rat} {xs : List V}, ShL H rs xs → (xs.filter fun v => decide (ratAt H v ≤ r)).length = (rs.filter fun x => decide (x ≤ r)).length
  | [], _, h => by rw [show _ = [] from h]; rfl
  | p :: ps, _, ⟨a, ys, e, h1, h2⟩ => by
    have ih := h2.cnt (r := r)
    rw [e, List.filter_cons, List.filter_cons, h1.rat]
    split <;> simp [ih]
theorem sc_ord : FnScope ["_law_some", "_law_found", "_law_one", "_law_at"] ["_law_some"] (defScope s_ord) := ⟨rfl, rfl, rfl, by decide +kernel, rfl, by decide +kernel, by decide +kernel⟩
theorem ok_ord {f : Addr} {fd : FuncData} (F : Fun K "_law_in_order" "_law_in_order" s_ord f fd) (T : Txt mg) {fnm : Addr} {dnm : FuncData} (Gnm : FnOk P w K mg base CX0 1 fnm dnm ["_law_one", "_law_other"] spNm) (bnm : Binds K dnm ["_law_one", "_law_other"] []) (knm : PySem.W.keepIn K (.ref fnm) = true) (mnm : mg "_law_no_more" = some (.ref fnm)) : FnOk P w K mg base CX0 2 f fd ["_law_some"] (spOrd K) := by
  refine F.ok sc_ord (fun vs H Q E h => ?_) (fun cdv A outer s H vs Q E hr h => ?_)
  · obtain ⟨a, xs, rs, rfl, _⟩ := h
    rfl
  obtain ⟨a, xs, rs, rfl, ha, sh, h40, q⟩ := h
  refine ⟨_, (pss_cons (ps_set (i := 1) sc_ord.nd rfl (Or.inl rfl) (pe_lst pa_nil))
    (pss_cons (ps_for PassesOwn.never rfl (pi_list (pv 0)) (pg_name (i := 2) sc_ord.nd rfl (Or.inr rfl)) (pss_cons (ps_set (i := 3) sc_ord.nd rfl (Or.inl rfl) (pe_callB call_len_seq rfl T.len boot_len (pa_cons (pe_compG (xs := ["_law_two"]) (ts := [("_law_one", 2)]) rfl ⟨rfl, sub1 rfl, rfl, rfl, rfl, by decide +kernel, rfl, rfl⟩ (pi_list (pv 1)) (fun C s3 H3 fp => (pg_name (i := 0) (show (["_law_two", "_law_one"] : List Str).Nodup by decide +kernel) rfl (Or.inl rfl) (Or.inr rfl))) (fun C s3 H3 fp => (pif_one (pt_val (pe_call Gnm hr rfl mnm knm bnm .nil pass0 (pa_cons (pv 0) (pa_cons (pv 1) pa_nil)))))) (fun C s3 H3 fp => (pv 0))) pa_nil)))
      (pss_one (ps_expr (pe_bm PySem.F.plainAttrs_list PySem.F.slot_list_insert PySem.F.type_list_insert mt_insert (pv 1) (pa_cons (pv 3) (pa_cons (pv 2) pa_nil)))))))
    (pss_one (ps_ret (pv 1))))), ?_⟩
  have hlx := sh.len
  refine ⟨Nat.zero_le _, fun l hl => ?_⟩
  have sl := same_new hl (.lst [])
  refine ⟨_, rfl, a, rfl, ⟨_, SqL.of (sl _ _ ha)⟩, ?_⟩
  refine for_list (xs := xs) (fun i σ H' => Same H H' ∧ ∃ ys v1 v2, σ = [some (.ref a), some (.ref l), v1, v2] ∧ H' l = some (.lst ys) ∧ ShL H' (Gc.ord (rs.take i)) ys) ⟨sl, [], none, none, rfl, upd_same, rfl⟩ ?_ ?_ ?_
  · rintro i σ H' hi ⟨s1, _⟩
    exact SqL.of (s1 _ _ ha)
  · rintro i x σ H1 hx ⟨s1, ys, v1, v2, rfl, hl1, sh1⟩
    have hi : i < rs.length := by rw [← hlx]; exact (List.getElem?_eq_some_iff.mp hx).1
    have er := List.getElem?_eq_getElem hi
    obtain ⟨b, eb, sb⟩ := (sh.keep s1).get er
    rw [hx] at eb
    cases eb
    generalize hr0 : rs[i] = r at *
    have tk : rs.take (i + 1) = rs.take i ++ [r] := by rw [List.take_add_one, er]; rfl
    have ly := sh1.len
    obtain ⟨up1, len1, _⟩ := ord_up _ (rs.take i) rfl
    have l40 : ys.length ≤ 40 := by
      rw [ly, len1]; simp; omega
    generalize hA : Gc.ord (rs.take i) = acc at *
    refine ⟨_, rfl, l, rfl, ⟨_, SqL.of hl1⟩, fun D hD => ?_⟩
    refine comp_listF (fun v => decide (ratAt H1 v ≤ r)) id hD (SqL.of hl1) (Nat.le_of_lt (lt40 l40)) ?_ ?_ ?_
    · intro j y H2 k hy s2 hk
      have hj : j < acc.length := by rw [← ly]; exact (List.getElem?_eq_some_iff.mp hy).1
      obtain ⟨c, ec, sc⟩ := sh1.get (List.getElem?_eq_getElem hj)
      rw [hy] at ec
      cases ec
      refine ⟨_, rfl, _, rfl, c, b, _, _, rfl, (sc.keep s2).fq, (sb.keep s2).fq, _, rfl, ?_⟩
      have := hk H2 (Same.refl H2)
      rw [sc.rat] at this
      exact this
    · intro j y H2 k hy hp s2 hk
      exact ⟨_, rfl, hk H2 (Same.refl H2)⟩
    · intro H2 s2 e2
      have cn : ((ys.filter fun v => decide (ratAt H1 v ≤ r)).map id).length = upto r acc := by rw [List.length_map, sh1.cnt, upto_cnt up1]
      refine ⟨D, _, rfl, .inl (SqL.of e2), ?_⟩
      rw [cn]
      have ul := upto_len r acc
      have hl2 := s2 _ _ hl1
      refine ⟨_, rfl, .inl ⟨rfl, _, SqL.of hl2⟩, _, rfl, _, rfl, l, ys, ((upto r acc : Nat) : Int), .ref b, rfl, rfl, hl2, by omega, by show upto r acc ≤ ys.length; omega, lt40 l40, ?_⟩
      refine ⟨same_write (s1.trans s2) hl, _, _, _, rfl, upd_same, ?_⟩
      rw [tk, ord_snoc, hA]
      have ek : (((upto r acc : Nat) : Int)).toNat = upto r acc := rfl
      rw [ek]
      unfold insE
      have sh2 := sh1.keep s2
      have z := ((sh2.take (upto r acc)).app (show ShL _ [r] [.ref b] from ⟨b, [], rfl, sb.keep s2, rfl⟩)).app (sh2.drop (upto r acc))
      have z' := z.write (l := l) (zs := ys) hl2 (ws := ys.take (upto r acc) ++ .ref b :: ys.drop (upto r acc))
      rw [List.append_assoc, List.append_assoc] at z'
      exact z'
  · rintro σ H1 ⟨s1, ys, v1, v2, rfl, hl1, sh1⟩
    refine ⟨_, rfl, q l H1 ys s1 hl1 ?_⟩
    rw [hlx, List.take_length] at sh1
    exact sh1
noncomputable def rowV (n : Nat) : List Int := (List.range (n + 1)).map fun k => (binom n k : Int)
theorem rowV_len (n : Nat) : (rowV n).length = n + 1 := by simp [rowV]
theorem rowV_at {n k : Nat} (h : k ≤ n) : (rowV n).getD k 0 = (binom n k : Int) := by
  unfold rowV
  rw [List.getD_eq_getElem?_getD, List.getElem?_map, List.getElem?_range (by omega)] <;> rfl
noncomputable def powV (b : Int) (m : Nat) : List Int := (List.range (m + 1)).map fun k => b ^ k
theorem powV_len (b : Int) (m : Nat) : (powV b m).length = m + 1 := by simp [powV]
theorem powV_at {b : Int} {m k : Nat} (h : k ≤ m) : (powV b m).getD k 0 = b ^ k := by
  unfold powV
  rw [List.getD_eq_getElem?_getD, List.getElem?_map, List.getElem?_range (by omega)] <;> rfl
theorem powV_succ (b : Int) (m : Nat) : powV b m ++ [b ^ (m + 1)] = powV b (m + 1) := by
  unfold powV
  rw [List.range_succ (n := m + 1), List.map_append] <;> rfl
noncomputable def spPows : Sp := fun vs H Q _ => ∃ (b : Int) (m : Nat), vs = [.int b, .int m] ∧ Sz 400 b ∧ m ≤ 12 ∧ ∀ l H', Same H H' → H' l = some (.lst ((powV b m).map V.int)) → Q (.ref l) H'
theorem sc_pows : FnScope ["_law_number", "_law_many", "_law_found", "_law_k"] ["_law_number", "_law_many"] (defScope s_pows) := ⟨rfl, rfl, rfl, by decide +kernel, rfl, by decide +kernel, by decide +kernel⟩
theorem ok_pows {f : Addr} {fd : FuncData} (F : Fun K "_law_powers" "_law_powers" s_pows f fd) (T : Txt mg) : FnOk P w K mg base CX0 1 f fd ["_law_number", "_law_many"] spPows := by
  refine F.ok sc_pows (fun vs H Q E h => ?_) (fun cdv A outer s H vs Q E hr h => ?_)
  · obtain ⟨b, m, rfl, _⟩ := h
    rfl
  obtain ⟨b, m, rfl, sb, hm, q⟩ := h
  refine ⟨_, (pss_cons (ps_set (i := 2) sc_pows.nd rfl (Or.inl rfl) (pe_lst (pa_cons pe_int pa_nil)))
    (pss_cons (ps_for PassesOwn.never rfl (pi_range1 rfl T.range (pa_cons (pv 1) pa_nil)) (pg_name (i := 3) sc_pows.nd rfl (Or.inl rfl)) (pss_one (ps_expr (pe_bm PySem.F.plainAttrs_list PySem.F.slot_list_append PySem.F.type_list_append mt_append (pv 2) (pa_cons (pe_op op_mulK (pe_ix ix_list (pv 2) (pv 3) (fun _ _ => rfl)) (pv 0)) pa_nil)))))
    (pss_one (ps_ret (pv 2))))), ?_⟩
  refine ⟨(by show 1 ≤ sizeLine; decide), fun l hl => ?_⟩
  refine ⟨_, rfl, _, rfl, by omega, by omega, ?_⟩
  have em : ((m : Int)).toNat = m := rfl
  rw [em]
  refine for_range (lo := 0) (fun i σ H' => Same H H' ∧ ∃ v, σ = [some (.int b), some (.int m), some (.ref l), v] ∧ H' l = some (.lst ((powV b i).map V.int))) ⟨same_new hl _, none, rfl, by rw [upd_same]; simp [powV]⟩ ?_ ?_
  · rintro i σ H1 hi ⟨sm, v, rfl, e⟩
    have len := powV_len b i
    refine ⟨_, rfl, .inl ⟨rfl, _, SqL.of e⟩, _, rfl, _, rfl, l, _, _, _, rfl, rfl, SqL.of e, at_getD (ns := powV b i) (by omega) (by rw [len]; omega), _, rfl, _, _, rfl, rfl, ⟨?_, sb.smk (by decide)⟩, l, _, _, rfl, rfl, e, ?_, ?_⟩
    · have ei : ((0 : Int) + (i : Int)).toNat = i := by omega
      rw [ei, powV_at (Nat.le_refl i)]
      exact (sb.powN i).smk (by omega)
    · rw [List.length_map, len]; unfold sizeLine; omega
    · refine ⟨fun c o ec => by rw [upd_ne (ne_of_none ec hl)]; exact sm c o ec, _, rfl, ?_⟩
      have ei : ((0 : Int) + (i : Int)).toNat = i := by omega
      rw [upd_same, ei, powV_at (Nat.le_refl i), ← powV_succ, List.map_append, Int.pow_succ] <;> rfl
  · rintro σ H1 ⟨sm, v, rfl, e⟩
    exact ⟨_, rfl, q l H1 sm e⟩
noncomputable def midV (n : Nat) : List Int := (List.range n).map fun j => (binom n j : Int) + (binom n (j + 1) : Int)
theorem rowV_mid (n : Nat) : [1] ++ midV n ++ [1] = rowV (n + 1) := by
  unfold rowV midV
  rw [List.range_succ (n := n + 1), List.map_append, List.range_succ_eq_map, List.map_cons, List.map_map]
  simp [b0, bself, bs, Function.comp]
noncomputable def spChs : Sp := fun vs H Q _ => ∃ n : Nat, vs = [.int n] ∧ n ≤ 12 ∧ ∀ l H', Same H H' → H' l = some (.lst ((rowV n).map V.int)) → Q (.ref l) H'
theorem sc_chs : FnScope ["_law_n", "_law_row", "_law_k"] ["_law_n"] (defScope s_chs) := ⟨rfl, rfl, rfl, by decide +kernel, rfl, by decide +kernel, by decide +kernel⟩
theorem ok_chs {f : Addr} {fd : FuncData} (F : Fun K "_law_choices" "_law_choices" s_chs f fd) (T : Txt mg) : FnOk P w K mg base CX0 1 f fd ["_law_n"] spChs := by
  refine F.ok sc_chs (fun vs H Q E h => ?_) (fun cdv A outer s H vs Q E hr h => ?_)
  · obtain ⟨n, rfl, _⟩ := h
    rfl
  obtain ⟨n, rfl, hn, q⟩ := h
  refine ⟨_, (pss_cons (ps_set (i := 1) sc_chs.nd rfl (Or.inr rfl) (pe_lst (pa_cons pe_int pa_nil)))
    (pss_cons (ps_for PassesOwn.never rfl (pi_range1 rfl T.range (pa_cons (pv 0) pa_nil)) (pg_name (i := 2) sc_chs.nd rfl (Or.inl rfl)) (pss_one (ps_set (i := 1) sc_chs.nd rfl (Or.inr rfl) (pe_op op_cat (pe_op op_cat (pe_lst (pa_cons pe_int pa_nil)) (pe_comp (ts := [("_law_row", 1)]) rfl ⟨rfl, sub1 rfl, rfl, rfl, rfl, rfl, by decide +kernel, rfl, rfl⟩ (pi_range1 rfl T.range (pa_cons (pe_op op_sub (pe_callB call_len_seq rfl T.len boot_len (pa_cons (pv 1) pa_nil)) pe_int) pa_nil)) (fun C s3 H3 fp => (pe_op op_add (pe_ix ix_listC (pv 1) (pv 0) (fun _ _ => rfl)) (pe_ix ix_listC (pv 1) (pe_op op_add (pv 0) pe_int) (fun _ _ => rfl)))))) (pe_lst (pa_cons pe_int pa_nil))))))
    (pss_one (ps_ret (pv 1))))), ?_⟩
  refine ⟨(by show 1 ≤ sizeLine; decide), fun p1 h1 => ?_⟩
  refine ⟨_, rfl, _, rfl, by omega, by omega, ?_⟩
  have big : ∀ m : Nat, m ≤ 40 → m ≤ sizeLine := fun m h => Nat.le_trans h (by decide)
  refine for_range (lo := 0) (fun i σ H' => Same H H' ∧ ∃ a v, σ = [some (.int n), some (.ref a), v] ∧ H' a = some (.lst ((rowV i).map V.int))) ⟨same_new h1 _, p1, none, rfl, upd_same⟩ ?_ ?_
  · rintro i σ H1 hi ⟨sm, a, v, rfl, ha⟩
    have len := rowV_len i
    have hi12 : i < 12 := by omega
    refine ⟨(by show 1 ≤ sizeLine; decide), fun p2 h2 => ?_⟩
    have s2 := same_new h2 (.lst [V.int 1])
    have ha2 := s2 _ _ ha
    refine ⟨_, rfl, a, _, rfl, .inl (SqL.of ha2), _, _, rfl, rfl, _, rfl, ?_, ?_, fun D hD => ?_⟩
    · rw [List.length_map, len]; omega
    · rw [List.length_map, len]; omega
    have eN : ((((rowV i).map V.int).length : Nat) : Int) - 1 = (i : Int) := by rw [List.length_map, len]; omega
    rw [eN]
    have ei : ((i : Int)).toNat = i := rfl
    rw [ei]
    refine comp_range (fun j => .int ((binom i j : Int) + (binom i (j + 1) : Int))) hD (big _ (by omega)) ?_ ?_
    · intro j H2 k hj sm2 hk
      have ha3 := sm2 _ _ ha2
      refine ⟨_, rfl, _, rfl, a, _, _, _, rfl, rfl, SqL.of ha3, at_getD (ns := rowV i) (by omega) (by rw [len]; omega), _, rfl, _, rfl, _, _, rfl, rfl, a, _, _, _, rfl, rfl, SqL.of ha3, at_getD (ns := rowV i) (by omega) (by rw [len]; omega), _, _, rfl, rfl, ?_⟩
      have e1 : ((0 : Int) + (j : Int)).toNat = j := by omega
      have e2 : ((0 : Int) + (j : Int) + 1).toNat = j + 1 := by omega
      rw [e1, e2, rowV_at (by omega), rowV_at (by omega)]
      exact hk H2 (Same.refl H2)
    · intro H2 sm2 hD2
      have em : (List.range i).map (fun j => V.int ((binom i j : Int) + (binom i (j + 1) : Int))) = (midV i).map V.int := by unfold midV; rw [List.map_map] <;> rfl
      rw [em] at hD2
      have lm : (midV i).length = i := by simp [midV]
      have hp2 := sm2 _ _ (upd_same (H := H1) (a := p2) (o := .lst [V.int 1]))
      refine ⟨p2, D, [.int 1], _, rfl, rfl, hp2, hD2, big _ (by simp [lm]; omega), fun p3 h3 => ?_⟩
      have s3 := same_new h3 (.lst ([V.int 1] ++ (midV i).map V.int))
      refine ⟨(by show 1 ≤ sizeLine; decide), fun p4 h4 => ?_⟩
      have s4 := same_new h4 (.lst [V.int 1])
      refine ⟨p3, p4, _, [.int 1], rfl, rfl, s4 _ _ upd_same, upd_same, big _ (by simp [lm]; omega), fun p5 h5 => ?_⟩
      have s5 := same_new h5 (.lst ([V.int 1] ++ (midV i).map V.int ++ [V.int 1]))
      refine ⟨((((sm.trans s2).trans sm2).trans s3).trans s4).trans s5, p5, _, rfl, ?_⟩
      rw [upd_same, ← rowV_mid, List.map_append, List.map_append] <;> rfl
  · rintro σ H1 ⟨sm, a, v, rfl, ha⟩
    exact ⟨_, rfl, q a H1 sm ha⟩
theorem mid_run {n : Nat} {ps : List (Rat × Rat)} (ok : IsRule n ps) {k : Nat} {a b : Rat} (ea : (edg (rimL ps))[k]? = some a) (eb : (edg (rimL ps))[k + 1]? = some b) {p : Rat} (h1 : a < p) (h2 : p < b) : runOf ps p p = runOf ps a b := by
  obtain ⟨i1, i2⟩ := edg_ok (rimL ps)
  obtain ⟨_, gap⟩ := inc_gap i1 ea eb
  have mem1 : ∀ x ∈ lowsOf ps, x ∈ edg (rimL ps) := fun x hx => by
    obtain ⟨z, hz, rfl⟩ := List.mem_map.mp hx
    refine (i2 _).mpr (List.mem_cons_of_mem _ (List.mem_cons_of_mem _ (List.mem_flatMap.mpr ⟨z, hz, ?_⟩)))
    simp
  have mem2 : ∀ x ∈ highsOf ps, x ∈ edg (rimL ps) := fun x hx => by
    obtain ⟨z, hz, rfl⟩ := List.mem_map.mp hx
    refine (i2 _).mpr (List.mem_cons_of_mem _ (List.mem_cons_of_mem _ (List.mem_flatMap.mpr ⟨z, hz, ?_⟩)))
    simp
  have u1 : upto p (lowsOf ps) = upto a (lowsOf ps) := upto_same ok.lows (by grind) fun x hx c => gap x (mem1 x hx) ⟨c.1, by grind⟩
  have u2 : lower p (highsOf ps) = lower b (highsOf ps) := lower_same ok.highs (by grind) fun x hx c => gap x (mem2 x hx) ⟨by grind, c.2⟩
  unfold runOf
  rw [u1, u2]
theorem fold_min : ∀ (l : List Cd) (o : Option Cd) (c : Cd), l.foldl stepC o = some c → (∀ d ∈ l, c.1 ≤ d.1) ∧ (∀ e, o = some e → c.1 ≤ e.1) ∧ (c ∈ l ∨ o = some c)
  | [], o, c, h => ⟨fun d hd => (by cases hd), fun e he => (by rw [List.foldl_nil] at h; rw [he] at h; cases h; grind), .inr h⟩
  | d :: l, o, c, h => by
    rw [List.foldl_cons] at h
    obtain ⟨h1, h2, h3⟩ := fold_min l (stepC o d) c h
    have key : c.1 ≤ d.1 ∧ (∀ e, o = some e → c.1 ≤ e.1) ∧ (stepC o d = some d ∨ ∃ e, o = some e ∧ stepC o d = some e) := by
      cases o with
      | none => exact ⟨h2 d rfl, fun e he => (by cases he), .inl rfl⟩
      | some e =>
        by_cases cc : d.1 < e.1
        · have es : stepC (some e) d = some d := if_pos cc
          have := h2 d es
          exact ⟨this, fun e' he => (by cases he; grind), .inl es⟩
        · have es : stepC (some e) d = some e := if_neg cc
          have := h2 e es
          exact ⟨by grind, fun e' he => (by cases he; exact this), .inr ⟨e, rfl, es⟩⟩
    refine ⟨fun x hx => ?_, key.2.1, ?_⟩
    · rcases List.mem_cons.mp hx with rfl | hx
      · exact key.1
      · exact h1 x hx
    · rcases h3 with h3 | h3
      · exact .inl (List.mem_cons_of_mem _ h3)
      · rcases key.2.2 with k | ⟨e, ke, k⟩
        · rw [k] at h3
          cases h3
          exact .inl (List.mem_cons_self ..)
        · rw [k] at h3
          cases h3
          exact .inr ke
theorem best_at {n : Nat} {ps : List (Rat × Rat)} {c : Cd} (hc : bestC n (allPc ps) = some c) : ∃ (k : Nat) (a b : Rat), (edg (rimL ps))[k]? = some a ∧ (edg (rimL ps))[k + 1]? = some b ∧ (c = (rsumO a n (runOf ps a b), a, true, b) ∨ c = (rsumO b n (runOf ps a b), b, false, a)) := by
  obtain ⟨_, _, m3⟩ := fold_min _ _ _ hc
  rcases m3 with m3 | m3
  · obtain ⟨p, hp, hcp⟩ := List.mem_flatMap.mp m3
    obtain ⟨k, hk, rfl⟩ := List.mem_map.mp hp
    have hk' := List.mem_range.mp hk
    refine ⟨k, (edg (rimL ps)).getD k 0, (edg (rimL ps)).getD (k + 1) 0, by rw [List.getD_eq_getElem?_getD, List.getElem?_eq_getElem (show k < (edg (rimL ps)).length by omega)] <;> rfl, by rw [List.getD_eq_getElem?_getD, List.getElem?_eq_getElem (show k + 1 < (edg (rimL ps)).length by omega)] <;> rfl, ?_⟩
    simpa [cdsOf] using hcp
  · cases m3
theorem beside_le {n : Nat} {ps : List (Rat × Rat)} (ok : IsRule n ps) {k : Nat} {a b p : Rat} (ea : (edg (rimL ps))[k]? = some a) (eb : (edg (rimL ps))[k + 1]? = some b) (pin : ∀ x ∈ rimL ps, 0 ≤ x ∧ x ≤ 1) (h1 : a < p) (h2 : p < b) :
    rsumO p n (runOf ps p p) ≤ rsumO a n (runOf ps a b) + (n : Rat) * (p - a) ∧ rsumO p n (runOf ps p p) ≤ rsumO b n (runOf ps a b) + (n : Rat) * (b - p) := by
  obtain ⟨i1, i2⟩ := edg_ok (rimL ps)
  have a01 := pin a ((i2 a).mp (List.mem_of_getElem? ea))
  have b01 := pin b ((i2 b).mp (List.mem_of_getElem? eb))
  rw [mid_run ok ea eb h1 h2]
  cases hr : runOf ps a b with
  | none =>
    have z1 : (0 : Rat) ≤ (n : Rat) * (p - a) := Rat.mul_nonneg (by exact_mod_cast Nat.zero_le n) (by grind)
    have z2 : (0 : Rat) ≤ (n : Rat) * (b - p) := Rat.mul_nonneg (by exact_mod_cast Nat.zero_le n) (by grind)
    show (0 : Rat) ≤ 0 + _ ∧ (0 : Rat) ≤ 0 + _
    grind
  | some z =>
    obtain ⟨z1, z2⟩ := run_in ok hr
    show rsum p n z.1 z.2 ≤ rsum a n z.1 z.2 + _ ∧ rsum p n z.1 z.2 ≤ rsum b n z.1 z.2 + _
    rw [rsum_le z1, rsum_le z1, rsum_le z1]
    have l1 := rn_lip a01.1 (show a ≤ p by grind) (by grind) n (show z.1 ≤ z.2 + 1 by omega)
    have l2 := rn_lip (show 0 ≤ p by grind) (show p ≤ b by grind) b01.2 n (show z.1 ≤ z.2 + 1 by omega)
    grind
noncomputable def lkR (n : Nat) (ps : List (Rat × Rat)) (s : Rat) (c : Cd) : Rat := besR c.2.1 c.2.2.2 (lackH (covE n ps s c.2.1 c.2.2.2))
theorem near_lt {n : Nat} (n1 : 1 ≤ n) {x y g T : Rat} (T0 : 0 < T) (h1 : x < y) (h2 : y * T ≤ 1) (h3 : (n : Rat) ≤ g * T) : (n : Rat) * x < g := by
  have np : (0 : Rat) < (n : Rat) := castpos n1
  have k1 : 0 < T * (y - x) := Rat.mul_pos T0 (by grind)
  have k2 : 0 < (n : Rat) * (T * (y - x)) := Rat.mul_pos np k1
  have k3 : (n : Rat) * (y * T) ≤ (n : Rat) * 1 := Rat.mul_le_mul_of_nonneg_left h2 (by grind)
  have : 0 < T * (g - (n : Rat) * x) := by grind
  have := pos_of T0 this
  grind
theorem best_edges {n : Nat} {ps : List (Rat × Rat)} {c : Cd} (hc : bestC n (allPc ps) = some c) : c.2.1 ∈ rimL ps ∧ c.2.2.2 ∈ rimL ps ∧ c.2.1 ≠ c.2.2.2 := by
  obtain ⟨k, a, b, ea, eb, hcc⟩ := best_at hc
  obtain ⟨i1, i2⟩ := edg_ok (rimL ps)
  have ma := (i2 a).mp (List.mem_of_getElem? ea)
  have mb := (i2 b).mp (List.mem_of_getElem? eb)
  have lt := (inc_gap i1 ea eb).1
  rcases hcc with rfl | rfl
  · exact ⟨ma, mb, by show a ≠ b; grind⟩
  · exact ⟨mb, ma, by show b ≠ a; grind⟩
theorem cov255 {n : Nat} {ps : List (Rat × Rat)} (ok : IsRule n ps) {c : Cd} (hc : bestC n (allPc ps) = some c) (pin : ∀ x ∈ rimL ps, 0 ≤ x ∧ x ≤ 1) {s : Rat} (gap : (n : Rat) ≤ (s - c.1) * (2 : Rat) ^ 255) : covE n ps s c.2.1 c.2.2.2 255 = true := by
  obtain ⟨k, a, b, ea, eb, hcc⟩ := best_at hc
  obtain ⟨i1, i2⟩ := edg_ok (rimL ps)
  have pa := pin a ((i2 a).mp (List.mem_of_getElem? ea))
  have pb := pin b ((i2 b).mp (List.mem_of_getElem? eb))
  have lt := (inc_gap i1 ea eb).1
  have T0 := (two_pow 255).1
  unfold covE
  rcases hcc with rfl | rfl
  · show decide (rsumO (besR a b 255) n (runOf ps (besR a b 255) (besR a b 255)) < s) = true
    obtain ⟨b1, b2⟩ := (bes_in (p := a) (f := b) pa.1 pb.1 255).1 lt
    obtain ⟨_, r2⟩ := (rch_in (p := a) (f := b) 255).1 lt
    have e : (rch a b 255 - a) * (2 : Rat) ^ 255 = b - a := by unfold rch; grind
    have le := (beside_le ok ea eb pin b1 (show besR a b 255 < b by grind)).1
    have gap' : (n : Rat) ≤ (s - rsumO a n (runOf ps a b)) * (2 : Rat) ^ 255 := gap
    have := near_lt ok.n1 T0 (x := besR a b 255 - a) (y := rch a b 255 - a) (by grind) (by rw [e]; grind) gap'
    exact decide_eq_true (by grind)
  · show decide (rsumO (besR b a 255) n (runOf ps (besR b a 255) (besR b a 255)) < s) = true
    obtain ⟨b1, b2⟩ := (bes_in (p := b) (f := a) pb.1 pa.1 255).2 lt
    obtain ⟨r1, _⟩ := (rch_in (p := b) (f := a) 255).2 lt
    have e : (b - rch b a 255) * (2 : Rat) ^ 255 = b - a := by unfold rch; grind
    have le := (beside_le ok ea eb pin (show a < besR b a 255 by grind) b2).2
    have gap' : (n : Rat) ≤ (s - rsumO b n (runOf ps a b)) * (2 : Rat) ^ 255 := gap
    have := near_lt ok.n1 T0 (x := b - besR b a 255) (y := b - rch b a 255) (by grind) (by rw [e]; grind) gap'
    exact decide_eq_true (by grind)
theorem at3 {x y z w : V} {xs : List V} : atI (x :: y :: z :: w :: xs) 3 = some w := atI_nat (xs := x :: y :: z :: w :: xs) (j := 3) rfl
noncomputable def spSure : Sp := fun vs H Q _ => ∃ (x sa : Addr) (n : Nat) (ps : List (Rat × Rat)) (s : Rat) (c : Cd), vs = [.ref x, .ref sa] ∧ RuleAt H x n ps ∧ FrA H sa s ∧ bestC n (allPc ps) = some c ∧ (∀ y ∈ rimL ps, 0 ≤ y ∧ y ≤ 1) ∧ (∀ y ∈ rimL ps, Sz 20 (y.den : Int)) ∧ (c.1 < s → (n : Rat) ≤ (s - c.1) * (2 : Rat) ^ 255) ∧
  (s ≤ c.1 → ∀ y u H', Same H H' → H' y = some (.tup [.str "sure", .ref u]) → FrA H' u c.1 → Q (.ref y) H') ∧
  (c.1 < s → ∀ y pa ca H', Same H H' → H' y = some (.tup [.str "not", .ref pa, .ref ca]) → Shp H' pa (lkR n ps s c) → FrA H' ca (rsumO (lkR n ps s c) n (runOf ps (lkR n ps s c) (lkR n ps s c))) → rsumO (lkR n ps s c) n (runOf ps (lkR n ps s c) (lkR n ps s c)) < s → Q (.ref y) H')
theorem sc_sure : FnScope ["rule", "share", "place", "p"] ["rule", "share"] (defScope s_sure) := ⟨rfl, rfl, rfl, by decide +kernel, rfl, by decide +kernel, by decide +kernel⟩
theorem ok_sure {f : Addr} {fd : FuncData} (F : Fun K "sure" "sure" s_sure f fd) (T : Txt mg) {flpl : Addr} {dlpl : FuncData} (Glpl : FnOk P w K mg base CX0 8 flpl dlpl ["rule"] spLpl) (blpl : Binds K dlpl ["rule"] []) (klpl : PySem.W.keepIn K (.ref flpl) = true) (mlpl : mg "least_place" = some (.ref flpl)) {fund : Addr} {dund : FuncData} (Gund : FnOk P w K mg base CX0 8 fund dund ["one", "other"] spUnd) (bund : Binds K dund ["one", "other"] []) (kund : PySem.W.keepIn K (.ref fund) = true) (mund : mg "under" = some (.ref fund)) {flack : Addr} {dlack : FuncData} (Glack : FnOk P w K mg base CX0 8 flack dlack ["rule", "share", "at", "far"] spLack) (black : Binds K dlack ["rule", "share", "at", "far"] []) (klack : PySem.W.keepIn K (.ref flack) = true) (mlack : mg "share_lacking" = some (.ref flack)) {fcov : Addr} {dcov : FuncData} (Gcov : FnOk P w K mg base CX0 8 fcov dcov ["rule", "p"] spCov) (bcov : Binds K dcov ["rule", "p"] []) (kcov : PySem.W.keepIn K (.ref fcov) = true) (mcov : mg "cover" = some (.ref fcov)) : FnOk P w K mg base CX0 9 f fd ["rule", "share"] spSure := by
  refine F.ok sc_sure (fun vs H Q E h => ?_) (fun cdv A outer s H vs Q E hr h => ?_)
  · obtain ⟨x, sa, n, ps, s, c, rfl, _⟩ := h
    rfl
  obtain ⟨x, sa, n, ps, sh, c, rfl, hx, fs, hc, pin, psz, gap, q1, q2⟩ := h
  refine ⟨_, (pss_cons (ps_set (i := 2) sc_sure.nd rfl (Or.inl rfl) (pe_call Glpl hr rfl mlpl klpl blpl .nil pass0 (pa_cons (pv 0) pa_nil)))
    (pss_cons (ps_if (pt_not (pt_val (pe_call Gund hr rfl mund kund bund .nil pass0 (pa_cons (pe_ix ix_tup (pv 2) pe_int (fun _ _ => rfl)) (pa_cons (pv 1) pa_nil))))) (pss_one (ps_ret (pe_tup (pa_cons pe_str (pa_cons (pe_ix ix_tup (pv 2) pe_int (fun _ _ => rfl)) pa_nil))))) pss_nil)
    (pss_cons (ps_set (i := 3) sc_sure.nd rfl (Or.inl rfl) (pe_call Glack hr rfl mlack klack black .nil pass0 (pa_cons (pv 0) (pa_cons (pv 1) (pa_cons (pe_ix ix_tup (pv 2) pe_int (fun _ _ => rfl)) (pa_cons (pe_ix ix_tup (pv 2) pe_int (fun _ _ => rfl)) pa_nil))))))
    (pss_one (ps_ret (pe_tup (pa_cons pe_str (pa_cons (pv 3) (pa_cons (pe_call Gcov hr rfl mcov kcov bcov .nil pass0 (pa_cons (pv 0) (pa_cons (pv 3) pa_nil))) pa_nil))))))))), ?_⟩
  refine ⟨_, rfl, x, n, ps, rfl, hx, fun v H1 s1 cv => ?_⟩
  rw [hc] at cv
  obtain ⟨y, ev, ⟨t, a', f, g1, g2, g3, g4⟩⟩ := cv
  subst ev
  refine ⟨_, rfl, y, _, 0, _, rfl, rfl, SqT.of g1, at0, _, rfl, t, sa, _, _, rfl, g2, fs.keep s1, _, rfl, ?_⟩
  by_cases cc : c.1 < sh
  · rw [decide_eq_true cc]
    obtain ⟨m1, m2, m3⟩ := best_edges hc
    refine iteF ⟨_, rfl, _, rfl, _, rfl, y, _, 1, _, rfl, rfl, SqT.of g1, at1, _, rfl, y, _, 3, _, rfl, rfl, SqT.of g1, at3, x, sa, a', f, n, ps, sh, c.2.1, c.2.2.2, rfl, hx.keep s1, fs.keep s1, g3, g4, m3, psz _ m1, psz _ m2, cov255 hx.ok hc pin (gap cc), fun pa H2 s2 te shp => ?_⟩
    have s12 := s1.trans s2
    refine ⟨_, rfl, _, rfl, _, rfl, x, n, ps, pa, _, rfl, hx.keep s12, shp, fun ca H3 s3 hca => ?_⟩
    refine ⟨(by show 3 ≤ sizeLine; decide), fun z hz => ?_⟩
    have s4 := same_new hz (.tup [V.str "not", V.ref pa, V.ref ca])
    exact q2 cc z pa ca _ ((s12.trans s3).trans s4) upd_same (shp.keep (s3.trans s4)) ((fr_rsumO shp hx.ok.n12 hca).keep s4) (of_decide_eq_true te)
  · rw [decide_eq_false cc]
    refine iteT ⟨_, rfl, y, _, 0, _, rfl, rfl, SqT.of g1, at0, (by show 2 ≤ sizeLine; decide), fun z hz => ?_⟩
    have s4 := same_new hz (.tup [V.str "sure", V.ref t])
    exact q1 (by grind) z t _ (s1.trans s4) upd_same (g2.keep s4)
noncomputable def spLw : Sp := fun vs H Q _ => ∃ t b : Int, vs = [.int t, .int b] ∧ 0 ≤ t ∧ 0 < b ∧ Smk b ∧ ∀ a H', Same H H' → H' a = some (.tup [.int (rq t b).num, .int ((rq t b).den : Int)]) → Q (.ref a) H'
theorem rq_mul20 {t b : Int} (hb : 0 < b) : rq t b * (b : Rat) = (t : Rat) := by
  have hq : (b : Rat) ≠ 0 := by intro e; have : b = 0 := by exact_mod_cast e
                                omega
  unfold rq
  grind
theorem rq_unit {t b : Int} (t0 : 0 ≤ t) (t1 : t ≤ b) (hb : 0 < b) : 0 ≤ rq t b ∧ rq t b ≤ 1 := by
  have e := rq_mul20 (t := t) hb
  have bp : (0 : Rat) < (b : Rat) := by exact_mod_cast hb
  have tq : (0 : Rat) ≤ (t : Rat) := by exact_mod_cast t0
  have lq : (t : Rat) ≤ (b : Rat) := by exact_mod_cast t1
  have n0 : 0 ≤ rq t b := nonneg_of bp (by grind)
  have n1 : 0 ≤ 1 - rq t b := nonneg_of bp (by grind)
  exact ⟨n0, by grind⟩
theorem shp_new {H : Hp} {a : Addr} {t b : Int} {m : Nat} (t0 : 0 ≤ t) (t1 : t ≤ b) (hb : 0 < b) (sb : Sz m b) (hm : m ≤ 300) (e : H a = some (.tup [.int (rq t b).num, .int ((rq t b).den : Int)])) : Shp H a (rq t b) ∧ Sz m ((rq t b).den : Int) :=
  ⟨⟨e, (rq_unit t0 t1 hb).1, (rq_unit t0 t1 hb).2, (shp_sz t0 t1 hb sb).mono hm⟩, shp_sz t0 t1 hb sb⟩
theorem sc_low : FnScope ["_law_top", "_law_bottom", "_law_by"] ["_law_top", "_law_bottom"] (defScope s_low) := ⟨rfl, rfl, rfl, by decide +kernel, rfl, by decide +kernel, by decide +kernel⟩
theorem ok_low {f : Addr} {fd : FuncData} (F : Fun K "_law_lowest" "_law_lowest" s_low f fd) (T : Txt mg) {fdv : Addr} {ddv : FuncData} (Gdv : FnOk P w K mg base CX0 1 fdv ddv ["_law_one", "_law_other"] spCd) (bdv : Binds K ddv ["_law_one", "_law_other"] []) (kdv : PySem.W.keepIn K (.ref fdv) = true) (mdv : mg "_law_divisor" = some (.ref fdv)) : FnOk P w K mg base CX0 2 f fd ["_law_top", "_law_bottom"] spLw := by
  refine F.ok sc_low (fun vs H Q E h => ?_) (fun cdv A outer s H vs Q E hr h => ?_)
  · obtain ⟨t, b, rfl, _⟩ := h
    rfl
  obtain ⟨t, b, rfl, t0, b0, sB, q⟩ := h
  refine ⟨_, (pss_cons (ps_set (i := 2) sc_low.nd rfl (Or.inl rfl) (pe_call Gdv hr rfl mdv kdv bdv .nil pass0 (pa_cons (pv 0) (pa_cons (pv 1) pa_nil))))
    (pss_one (ps_ret (pe_tup (pa_cons (pe_op op_fdivK (pv 0) (pv 2)) (pa_cons (pe_op op_fdivK (pv 1) (pv 2)) pa_nil)))))), ?_⟩
  have nd := frD_ne (t := t) (b := b) (by omega)
  have sd := smk_frD (a := t) (b := b) (by omega) sB
  have fd := frD_pos (a := t) b0
  rw [fd] at nd sd
  refine ⟨_, rfl, _, rfl, t, b, rfl, t0, by omega, ?_⟩
  refine ⟨_, rfl, _, rfl, _, _, rfl, rfl, ⟨nd, sd⟩, _, rfl, _, rfl, _, _, rfl, rfl, ⟨nd, sd⟩, (by show 2 ≤ sizeLine; decide), fun p3 h3 => ?_⟩
  obtain ⟨f1, f2⟩ := fr_rat (Int.ne_of_gt b0) (rq_mul20 (t := t) b0)
  unfold frT at f1
  unfold frB at f2
  rw [fd] at f1 f2
  refine q p3 _ (same_new h3 _) ?_
  rw [upd_same]
  show some (HO.tup [V.int (t.fdiv (Int.gcd t b : Int)), V.int (b.fdiv (Int.gcd t b : Int))]) = _
  rw [f1, f2]
noncomputable def szN (n : Nat) : Nat := if 6 < n then 7 else 20
noncomputable def limN (n : Nat) : Int := if 6 < n then 100 else 1000000
noncomputable abbrev limL (n : Nat) : List Int := [20, limN n]
noncomputable def mes (n : Nat) (c : Int) : Int := 1 + c / 2 % (limL n).getD (c % 2).toNat 0
theorem lim_in (n : Nat) (c : Int) : 20 ≤ (limL n).getD (c % 2).toNat 0 ∧ (limL n).getD (c % 2).toNat 0 ≤ limN n := by
  have hm : (limL n).getD (c % 2).toNat 0 ∈ limL n := getD_mem (by show (c % 2).toNat < 2; have := md0 c (show (0 : Int) < 2 by decide); have := md1 c (show (0 : Int) < 2 by decide); omega)
  generalize (limL n).getD (c % 2).toNat 0 = b at *
  have hl : 100 ≤ limN n := by unfold limN; split <;> omega
  simp only [List.mem_cons, List.not_mem_nil, or_false] at hm
  rcases hm with e | e <;> omega
theorem mes_in (n : Nat) (c : Int) : 1 ≤ mes n c ∧ mes n c ≤ limN n := by
  obtain ⟨l0, l1⟩ := lim_in n c
  have g1 := md0 (c / 2) (show (0 : Int) < (limL n).getD (c % 2).toNat 0 by omega)
  have f1 := md1 (c / 2) (show (0 : Int) < (limL n).getD (c % 2).toNat 0 by omega)
  unfold mes
  omega
theorem sz_mes {n : Nat} {m : Int} (h : 1 ≤ m ∧ m ≤ limN n) : Sz (szN n) m := by
  obtain ⟨h0, h1⟩ := h
  unfold limN at h1
  unfold szN
  by_cases d : 6 < n
  · rw [if_pos d] at h1 ⊢
    exact Nat.lt_of_le_of_lt (show m.natAbs ≤ 100 by omega) (by decide)
  · rw [if_neg d] at h1 ⊢
    exact Nat.lt_of_le_of_lt (show m.natAbs ≤ 1000000 by omega) (by decide)
theorem szN_le {n : Nat} (h : n ≤ 12) : szN n ≤ 20 ∧ szN n * n ≤ 120 := by
  unfold szN
  split <;> omega
noncomputable abbrev prtL (m : Int) : List Int := [m / 3 + 1, m + 1]
noncomputable def prt (m k : Int) : Int := (prtL m).getD k.toNat 0
theorem prt_in {m : Int} (h : 1 ≤ m) {k : Int} (k0 : 0 ≤ k) (k1 : k < 2) : 0 < prt m k ∧ prt m k ≤ m + 1 := by
  have hm : prt m k ∈ prtL m := getD_mem (by show k.toNat < 2; omega)
  generalize prt m k = b at *
  simp only [List.mem_cons, List.not_mem_nil, or_false] at hm
  rcases hm with e | e <;> omega
noncomputable def SmM (m : Nat) (rs : List Rat) : Prop := ∀ r ∈ rs, Sz m (r.den : Int)
noncomputable def SmPM (m : Nat) (ps : List (Rat × Rat)) : Prop := ∀ p ∈ ps, Sz m (p.1.den : Int) ∧ Sz m (p.2.den : Int)
theorem SmM.snoc {m : Nat} {rs : List Rat} {p : Rat} (h : SmM m rs) (z : Sz m (p.den : Int)) : SmM m (rs ++ [p]) := fun r hr => by
  rcases List.mem_append.mp hr with q | q
  · exact h r q
  · rw [List.mem_singleton.mp q]; exact z
theorem stz_sm20 {m : Nat} {ls hs : List Rat} (h1 : SmM m ls) (h2 : SmM m hs) : SmPM m (stz false ls hs) := fun p hp => by
  obtain ⟨i, hi⟩ := List.mem_iff_getElem?.mp hp
  obtain ⟨l, k, a, b, rfl⟩ := stz_at hi
  refine ⟨h1 _ (List.mem_of_getElem? a), ?_⟩
  show Sz m ((hiF false l k).den : Int)
  unfold hiF
  split
  · exact h1 _ (List.mem_of_getElem? a)
  · exact h2 _ (List.mem_of_getElem? b)
noncomputable def spStr (K : PySem.W.Frag) : Sp := fun vs H Q _ => ∃ (a : Addr) (ns : List Int) (at_ : Int) (n : Nat), vs = [.ref a, .int at_, .int n] ∧ SqL K H a (ns.map V.int) ∧ 0 ≤ at_ ∧ 1 ≤ n ∧ n ≤ 12 ∧ ∀ l H' zs ps, Same H H' → H' l = some (.lst zs) → RowP H' ps zs → IsRule n ps → SmPM (szN n) ps → Q (.ref l) H'
theorem sc_str : FnScope ["_law_script", "_law_at", "_law_n", "_law_cell", "_law_measure", "_law_lows", "_law_highs", "_law_k", "_law_xs", "_law_part", "_law_found", "_law_high"] ["_law_script", "_law_at", "_law_n"] (defScope s_str) := ⟨rfl, rfl, rfl, by decide +kernel, rfl, by decide +kernel, by decide +kernel⟩
theorem ok_str {f : Addr} {fd : FuncData} (F : Fun K "_law_stretches" "_law_stretches" s_str f fd) (T : Txt mg) {fcell : Addr} {dcell : FuncData} (Gcell : FnOk P w K mg base CX0 3 fcell dcell ["_law_script", "_law_k"] (spCell K)) (bcell : Binds K dcell ["_law_script", "_law_k"] []) (kcell : PySem.W.keepIn K (.ref fcell) = true) (mcell : mg "_law_cell_at" = some (.ref fcell)) {fstream : Addr} {dstream : FuncData} (Gstream : FnOk P w K mg base CX0 3 fstream dstream ["_law_cell", "_law_salt", "_law_many"] spStream) (bstream : Binds K dstream ["_law_cell", "_law_salt", "_law_many"] []) (kstream : PySem.W.keepIn K (.ref fstream) = true) (mstream : mg "_law_stream" = some (.ref fstream)) {flow : Addr} {dlow : FuncData} (Glow : FnOk P w K mg base CX0 3 flow dlow ["_law_top", "_law_bottom"] spLw) (blow : Binds K dlow ["_law_top", "_law_bottom"] []) (klow : PySem.W.keepIn K (.ref flow) = true) (mlow : mg "_law_lowest" = some (.ref flow)) {ford : Addr} {dord : FuncData} (Gord : FnOk P w K mg base CX0 3 ford dord ["_law_some"] (spOrd K)) (bord : Binds K dord ["_law_some"] []) (kord : PySem.W.keepIn K (.ref ford) = true) (mord : mg "_law_in_order" = some (.ref ford)) {fnm : Addr} {dnm : FuncData} (Gnm : FnOk P w K mg base CX0 3 fnm dnm ["_law_one", "_law_other"] spNm) (bnm : Binds K dnm ["_law_one", "_law_other"] []) (knm : PySem.W.keepIn K (.ref fnm) = true) (mnm : mg "_law_no_more" = some (.ref fnm)) : FnOk P w K mg base CX0 4 f fd ["_law_script", "_law_at", "_law_n"] (spStr K) := by
  refine F.ok sc_str (fun vs H Q E h => ?_) (fun cdv A outer s H vs Q E hr h => ?_)
  · obtain ⟨a, ns, at_, n, rfl, _⟩ := h
    rfl
  obtain ⟨a, ns, at_, n, rfl, hS, a0, n1, n12, q⟩ := h
  refine ⟨_, (pss_cons (ps_set (i := 3) sc_str.nd rfl (Or.inl rfl) (pe_call Gcell hr rfl mcell kcell bcell .nil pass0 (pa_cons (pv 0) (pa_cons (pv 1) pa_nil))))
    (pss_cons (ps_set (i := 4) sc_str.nd rfl (Or.inl rfl) (pe_op op_add pe_int (pe_op op_mod (pe_op op_fdiv (pv 3) pe_int) (pe_ix ix_list (pe_lst (pa_cons pe_int (pa_cons (pe_ix ix_list (pe_lst (pa_cons pe_int (pa_cons pe_int pa_nil))) (pe_callTy call_int1 rfl T.int boot_int (pa_cons (pe_cmpR op_gt (pv 2) pe_int (nomark _)) pa_nil)) (fun _ _ => rfl)) pa_nil))) (pe_op op_mod (pv 3) pe_int) (fun _ _ => rfl)))))
    (pss_cons (ps_set (i := 5) sc_str.nd rfl (Or.inl rfl) (pe_lst pa_nil))
    (pss_cons (ps_set (i := 6) sc_str.nd rfl (Or.inl rfl) (pe_lst pa_nil))
    (pss_cons (ps_for PassesOwn.never rfl (pi_range1 rfl T.range (pa_cons (pe_op op_add (pv 2) pe_int) pa_nil)) (pg_name (i := 7) sc_str.nd rfl (Or.inl rfl)) (pss_cons (ps_set (i := 8) sc_str.nd rfl (Or.inl rfl) (pe_call Gstream hr rfl mstream kstream bstream .nil pass0 (pa_cons (pe_call Gcell hr rfl mcell kcell bcell .nil pass0 (pa_cons (pv 0) (pa_cons (pe_op op_add (pe_op op_add (pv 1) pe_int) (pv 7)) pa_nil))) (pa_cons (pe_op op_add pe_int (pv 7)) (pa_cons pe_int pa_nil)))))
      (pss_cons (ps_set (i := 9) sc_str.nd rfl (Or.inl rfl) (pe_ix ix_list (pe_lst (pa_cons (pe_op op_add (pe_op op_fdiv (pv 4) pe_int) pe_int) (pa_cons (pe_op op_add (pv 4) pe_int) pa_nil))) (pe_op op_fdiv (pe_op op_mod (pe_ix ix_list (pv 8) pe_int (fun _ _ => rfl)) pe_int) pe_int) (fun _ _ => rfl)))
      (pss_cons (ps_expr (pe_bm PySem.F.plainAttrs_list PySem.F.slot_list_append PySem.F.type_list_append mt_append (pv 5) (pa_cons (pe_call Glow hr rfl mlow klow blow .nil pass0 (pa_cons (pe_op op_mod (pe_ix ix_list (pv 8) pe_int (fun _ _ => rfl)) (pv 9)) (pa_cons (pv 4) pa_nil))) pa_nil)))
      (pss_one (ps_expr (pe_bm PySem.F.plainAttrs_list PySem.F.slot_list_append PySem.F.type_list_append mt_append (pv 6) (pa_cons (pe_call Glow hr rfl mlow klow blow .nil pass0 (pa_cons (pe_op op_sub (pv 4) (pe_op op_mod (pe_ix ix_list (pv 8) pe_int (fun _ _ => rfl)) (pv 9))) (pa_cons (pv 4) pa_nil))) pa_nil))))))))
    (pss_cons (ps_set (i := 5) sc_str.nd rfl (Or.inl rfl) (pe_call Gord hr rfl mord kord bord .nil pass0 (pa_cons (pv 5) pa_nil)))
    (pss_cons (ps_set (i := 6) sc_str.nd rfl (Or.inl rfl) (pe_call Gord hr rfl mord kord bord .nil pass0 (pa_cons (pv 6) pa_nil)))
    (pss_cons (ps_set (i := 10) sc_str.nd rfl (Or.inl rfl) (pe_lst pa_nil))
    (pss_cons (ps_for PassesOwn.never rfl (pi_range1 rfl T.range (pa_cons (pe_op op_add (pv 2) pe_int) pa_nil)) (pg_name (i := 7) sc_str.nd rfl (Or.inl rfl)) (pss_cons (ps_set (i := 11) sc_str.nd rfl (Or.inl rfl) (pe_ix ix_list (pv 6) (pv 7) (fun _ _ => rfl)))
      (pss_cons (ps_if (pt_val (pe_call Gnm hr rfl mnm knm bnm .nil pass0 (pa_cons (pv 11) (pa_cons (pe_ix ix_list (pv 5) (pv 7) (fun _ _ => rfl)) pa_nil)))) (pss_one (ps_set (i := 11) sc_str.nd rfl (Or.inl rfl) (pe_ix ix_list (pv 5) (pv 7) (fun _ _ => rfl)))) pss_nil)
      (pss_one (ps_expr (pe_bm PySem.F.plainAttrs_list PySem.F.slot_list_append PySem.F.type_list_append mt_append (pv 10) (pa_cons (pe_tup (pa_cons (pe_ix ix_list (pv 5) (pv 7) (fun _ _ => rfl)) (pa_cons (pv 11) pa_nil))) pa_nil)))))))
    (pss_one (ps_ret (pv 10)))))))))))), ?_⟩
  refine ⟨_, rfl, _, rfl, a, ns, _, rfl, hS, a0, ?_⟩
  generalize hc : ns.getD at_.toNat 0 = c
  have six : ∀ b : Bool, atI ([V.int 1000000, V.int 100]) (if b = true then (1 : Int) else 0) = some (V.int (if b = true then 100 else 1000000)) := fun b => by cases b <;> rfl
  have eL : (if decide ((6 : Int) < (n : Int)) = true then (100 : Int) else 1000000) = limN n := by
    unfold limN
    by_cases d : 6 < n
    · rw [if_pos (decide_eq_true (by omega)), if_pos d]
    · rw [if_neg (by simp; omega), if_neg d]
  obtain ⟨l0, l1⟩ := lim_in n c
  refine ⟨_, rfl, _, _, rfl, rfl, ⟨by decide, by decide⟩, (by show 2 ≤ sizeLine; decide), fun p1 h1 => ⟨_, rfl, _, _, rfl, rfl, .inr ⟨_, rfl, p1, _, _, _, rfl, rfl, SqL.of upd_same, six _, (by show 2 ≤ sizeLine; decide), fun p2 h2 => ?_⟩⟩⟩
  have u1 := (same_new h1 (.lst [V.int 1000000, V.int 100])).trans (same_new h2 (.lst [V.int 20, V.int (if decide ((6 : Int) < (n : Int)) = true then 100 else 1000000)]))
  refine ⟨_, rfl, _, _, rfl, rfl, (by show (0 : Int) < 2; decide), p2, [V.int 20, V.int (if decide ((6 : Int) < (n : Int)) = true then 100 else 1000000)], _, _, rfl, rfl, SqL.of upd_same, (by rw [eL]; exact at_getD (ns := limL n) (md0 _ (by decide)) (md1 _ (by decide))), _, _, rfl, rfl, (by show (0 : Int) < (limL n).getD (c % 2).toNat 0; omega), _, _, rfl, rfl, ?_⟩
  have hm := mes_in n c
  refine ⟨Nat.zero_le _, fun L hL => ⟨Nat.zero_le _, fun G hG => ?_⟩⟩
  have u2 := same_new hL (.lst [])
  have u3 := same_new hG (.lst [])
  have u13 := (u1.trans u2).trans u3
  have nLG : L ≠ G := fun e => by rw [← e, upd_same] at hG; cases hG
  have hLn := none_back u1 hL
  have hGn := none_back (u1.trans u2) hG
  refine ⟨_, rfl, _, _, rfl, rfl, _, rfl, by omega, by omega, ?_⟩
  have en : ((n : Int) + 1).toNat = n + 1 := by omega
  rw [en]
  refine for_range (lo := 0) (fun i σ H' => Same H H' ∧ ∃ ls us hs ws v1 v2 v3, σ = [some (.ref a), some (.int at_), some (.int n), some (.int c), some (.int (mes n c)), some (.ref L), some (.ref G), v1, v2, v3, none, none] ∧ ls.length = i ∧ hs.length = i ∧ H' L = some (.lst us) ∧ ShL H' ls us ∧ H' G = some (.lst ws) ∧ ShL H' hs ws ∧ SmM (szN n) ls ∧ SmM (szN n) hs) ⟨u13, [], [], [], [], none, none, none, rfl, rfl, rfl, u3 _ _ upd_same, rfl, upd_same, rfl, (by intro r hr; cases hr), (by intro r hr; cases hr)⟩ ?_ ?_
  · rintro i σ H1 hi ⟨sm, ls, us, hs, ws, v1, v2, v3, rfl, ll, lh, hL1, sh1, hG1, sh2, z1, z2⟩
    have lu := sh1.len
    have lw := sh2.len
    refine ⟨_, rfl, _, rfl, _, _, rfl, rfl, _, rfl, _, _, rfl, rfl, a, ns, _, rfl, sm.seq hS, by omega, _, rfl, _, _, rfl, rfl, _, _, 4, rfl, by omega, by omega, by decide, fun lx H2 xs fx s2 hx lx4 xin => ?_⟩
    have sm2 := sm.trans s2
    have hL2 := s2 _ _ hL1
    have hG2 := s2 _ _ hG1
    have nxL : lx ≠ L := fun e => by rw [e, hL1] at fx; cases fx
    have nxG : lx ≠ G := fun e => by rw [e, hG1] at fx; cases fx
    have gx : ∀ k : Nat, k < 3 → atI (xs.map V.int) (k : Int) = some (.int (xs.getD k 0)) := fun k hk => at_getD (ns := xs) (i := (k : Int)) (by omega) (by omega)
    have k2 := md0 (xs.getD 2 0) (show (0 : Int) < 4 by decide)
    have k2' := md1 (xs.getD 2 0) (show (0 : Int) < 4 by decide)
    have j0 : 0 ≤ xs.getD 2 0 % 4 / 3 := by omega
    have j1 : xs.getD 2 0 % 4 / 3 < 2 := by omega
    refine ⟨_, rfl, _, _, rfl, rfl, ⟨by decide, by decide⟩, _, _, rfl, rfl, _, rfl, _, _, rfl, rfl, (by show 2 ≤ sizeLine; decide), fun p hp => ?_⟩
    have t1 := same_new hp (.lst ((prtL (mes n c)).map V.int))
    refine ⟨_, rfl, lx, _, 2, _, rfl, rfl, SqL.of (t1 _ _ hx), gx 2 (by decide), _, _, rfl, rfl, (by show (0 : Int) < 4; decide), _, _, rfl, rfl, ⟨by decide, by decide⟩, p, _, _, _, rfl, rfl, SqL.of upd_same, at_getD (ns := prtL (mes n c)) j0 j1, ?_⟩
    obtain ⟨pp0, pp1⟩ := prt_in hm.1 j0 j1
    have hx2 := t1 _ _ hx
    have hL2' := t1 _ _ hL2
    have hG2' := t1 _ _ hG2
    have sm2' := sm2.trans t1
    have sh1' := (sh1.keep s2).keep t1
    have sh2' := (sh2.keep s2).keep t1
    have e0 := md0 (xs.getD 0 0) pp0
    have e0' := md1 (xs.getD 0 0) pp0
    have e1 := md0 (xs.getD 1 0) pp0
    have e1' := md1 (xs.getD 1 0) pp0
    have e0m : xs.getD 0 0 % prt (mes n c) (xs.getD 2 0 % 4 / 3) ≤ mes n c := by omega
    have e1m : 0 ≤ mes n c - xs.getD 1 0 % prt (mes n c) (xs.getD 2 0 % 4 / 3) := by omega
    have e1n : mes n c - xs.getD 1 0 % prt (mes n c) (xs.getD 2 0 % 4 / 3) ≤ mes n c := by omega
    have mp : 0 < mes n c := by omega
    have m300 : szN n ≤ 300 := Nat.le_trans (szN_le n12).1 (by decide)
    have smkm : Smk (mes n c) := (sz_mes hm).smk (Nat.le_trans (szN_le n12).1 (by decide))
    refine ⟨_, rfl, .inl ⟨rfl, _, SqL.of hL2'⟩, _, rfl, lx, _, 0, _, rfl, rfl, SqL.of hx2, gx 0 (by decide), _, rfl, _, _, rfl, rfl, pp0, _, rfl, _, mes n c, rfl, e0, mp, smkm, fun s1 H3 s3 he1 => ?_⟩
    obtain ⟨hs1, zr1⟩ := shp_new e0 e0m mp (sz_mes hm) m300 he1
    generalize rq (xs.getD 0 0 % prt (mes n c) (xs.getD 2 0 % 4 / 3)) (mes n c) = r1 at *
    have hL3 := s3 _ _ hL2'
    have hG3 := s3 _ _ hG2'
    have hx3 := s3 _ _ hx2
    refine ⟨L, us, .ref s1, rfl, rfl, hL3, lt40 (by omega), ?_⟩
    have sh1n := ((sh1'.keep s3).app (show ShL _ [r1] [.ref s1] from ⟨s1, [], rfl, hs1, rfl⟩)).write (ws := us ++ [.ref s1]) hL3
    have sh2n := (sh2'.keep s3).write (ws := us ++ [.ref s1]) hL3
    have smw : Same H (upd H3 L (.lst (us ++ [.ref s1]))) := same_write (sm2'.trans s3) hLn
    have hL4 : (upd H3 L (.lst (us ++ [.ref s1]))) L = some (.lst (us ++ [.ref s1])) := upd_same
    have hG4 : (upd H3 L (.lst (us ++ [.ref s1]))) G = some (.lst ws) := by rw [upd_ne (Ne.symm nLG)]; exact hG3
    have hx4 : (upd H3 L (.lst (us ++ [.ref s1]))) lx = some (.lst (xs.map V.int)) := by rw [upd_ne nxL]; exact hx3
    generalize upd H3 L (.lst (us ++ [.ref s1])) = H4 at *
    refine ⟨_, rfl, .inl ⟨rfl, _, SqL.of hG4⟩, _, rfl, _, rfl, lx, _, 1, _, rfl, rfl, SqL.of hx4, gx 1 (by decide), _, rfl, _, _, rfl, rfl, pp0, _, _, rfl, rfl, _, rfl, _, mes n c, rfl, e1m, mp, smkm, fun s1' H5 s5 he2 => ?_⟩
    obtain ⟨hs1', zr2⟩ := shp_new e1m e1n mp (sz_mes hm) m300 he2
    generalize rq (mes n c - xs.getD 1 0 % prt (mes n c) (xs.getD 2 0 % 4 / 3)) (mes n c) = r1' at *
    have hL5 := s5 _ _ hL4
    have hG5 := s5 _ _ hG4
    refine ⟨G, ws, .ref s1', rfl, rfl, hG5, lt40 (by omega), ?_⟩
    refine ⟨same_write (smw.trans s5) hGn, ls ++ [r1], us ++ [.ref s1], hs ++ [r1'], ws ++ [.ref s1'], _, _, _, rfl, by simp [ll], by simp [lh], by rw [upd_ne nLG]; exact hL5, (sh1n.keep s5).write hG5, upd_same, ?_, z1.snoc zr1, z2.snoc zr2⟩
    exact ((sh2n.keep s5).app (show ShL _ [r1'] [.ref s1'] from ⟨s1', [], rfl, hs1', rfl⟩)).write hG5
  rintro σ H1 ⟨sm, ls, us, hs, ws, v1, v2, v3, rfl, ll, lh, hL1, sh1, hG1, sh2, z1, z2⟩
  refine ⟨_, rfl, L, us, ls, rfl, hL1, sh1, by omega, fun l1 H2 ys s2 hl1 sha => ?_⟩
  refine ⟨_, rfl, G, ws, hs, rfl, s2 _ _ hG1, sh2.keep s2, by omega, fun l2 H3 ys' s3 hl2 shb => ?_⟩
  obtain ⟨up1, len1, mm1⟩ := ord_up _ ls rfl
  obtain ⟨up2, len2, mm2⟩ := ord_up _ hs rfl
  have zo : SmM (szN n) (Gc.ord ls) := fun r hr => z1 r ((mm1 r).mp hr)
  have zh : SmM (szN n) (Gc.ord hs) := fun r hr => z2 r ((mm2 r).mp hr)
  generalize hLs : Gc.ord ls = os at *
  generalize hHs : Gc.ord hs = oh at *
  refine ⟨Nat.zero_le _, fun F hF => ?_⟩
  have s4 := same_new hF (.lst [])
  have s14 := (sm.trans s2).trans (s3.trans s4)
  have hFn := none_back ((sm.trans s2).trans s3) hF
  have hl1' := s4 _ _ (s3 _ _ hl1)
  have hl2' := s4 _ _ hl2
  have sha' := (sha.keep s3).keep s4
  have shb' := shb.keep s4
  have n1F : l1 ≠ F := fun e => by rw [← e, s3 _ _ hl1] at hF; cases hF
  have n2F : l2 ≠ F := fun e => by rw [← e, hl2] at hF; cases hF
  refine ⟨_, rfl, _, _, rfl, rfl, _, rfl, by omega, by omega, ?_⟩
  rw [en]
  refine for_range (lo := 0) (fun i σ H' => Same H H' ∧ ∃ zs v1 v2 v3 v4, σ = [some (.ref a), some (.int at_), some (.int n), some (.int c), some (.int (mes n c)), some (.ref l1), some (.ref l2), v1, v2, v4, some (.ref F), v3] ∧ H' l1 = some (.lst ys) ∧ ShL H' os ys ∧ H' l2 = some (.lst ys') ∧ ShL H' oh ys' ∧ H' F = some (.lst zs) ∧ RowP H' ((stz false os oh).take i) zs) ⟨s14, [], v1, v2, none, v3, rfl, hl1', sha', hl2', shb', upd_same, rfl⟩ ?_ ?_
  · rintro i σ H4 hi ⟨sm4, zs, w1, w2, w3, w4, rfl, g1, g2, g3, g4, g5, g6⟩
    obtain ⟨b1, e1, f1⟩ := g2.get (List.getElem?_eq_getElem (show i < os.length by omega))
    obtain ⟨b2, e2, f2⟩ := g4.get (List.getElem?_eq_getElem (show i < oh.length by omega))
    have ei : (0 : Int) + (i : Int) = (i : Int) := by omega
    rw [ei]
    refine ⟨_, rfl, _, rfl, l2, _, _, _, rfl, rfl, SqL.of g3, atI_nat e2, ?_⟩
    dsimp only
    refine seq_by (fun σ H' => H' = H4 ∧ ∃ z, σ = [some (.ref a), some (.int at_), some (.int n), some (.int c), some (.int (mes n c)), some (.ref l1), some (.ref l2), some (.int (i : Int)), w2, w4, some (.ref F), some (.ref z)] ∧ Shp H' z (hiF false (os[i]'(by omega)) (oh[i]'(by omega)))) ?_ ?_
    · intro M hM
      refine ⟨_, rfl, _, rfl, _, rfl, l1, _, _, _, rfl, rfl, SqL.of g1, atI_nat e1, b2, b1, _, _, rfl, f2.fq, f1.fq, _, rfl, ?_⟩
      by_cases cc : oh[i]'(by omega) ≤ os[i]'(by omega)
      · rw [decide_eq_true cc]
        refine iteT ⟨_, rfl, _, rfl, l1, _, _, _, rfl, rfl, SqL.of g1, atI_nat e1, hM _ _ ⟨rfl, b1, rfl, ?_⟩⟩
        have : hiF false (os[i]'(by omega)) (oh[i]'(by omega)) = os[i]'(by omega) := by
          unfold hiF
          split
          · rfl
          · grind
        rw [this]
        exact f1
      · rw [decide_eq_false cc]
        refine iteF (hM _ _ ⟨rfl, b2, rfl, ?_⟩)
        have : hiF false (os[i]'(by omega)) (oh[i]'(by omega)) = oh[i]'(by omega) := by
          unfold hiF
          rw [if_neg]
          rintro (z | z)
          · grind
          · cases z
        rw [this]
        exact f2
    · rintro σ H5 ⟨rfl, z, rfl, sz⟩
      have lz : zs.length ≤ 40 := by rw [g6.len]; unfold stz; simp; omega
      refine ⟨_, rfl, .inl ⟨rfl, _, SqL.of g5⟩, _, rfl, _, rfl, l1, _, _, _, rfl, rfl, SqL.of g1, atI_nat e1, _, rfl, (by show 2 ≤ sizeLine; decide), fun w hw => ?_⟩
      have sw := same_new hw (.tup [V.ref b1, V.ref z])
      refine ⟨F, zs, .ref w, rfl, rfl, sw _ _ g5, lt40 lz, ?_⟩
      refine ⟨same_write (sm4.trans sw) hFn, zs ++ [.ref w], _, _, _, _, rfl, by rw [upd_ne n1F]; exact sw _ _ g1, (g2.keep sw).write (sw _ _ g5), by rw [upd_ne n2F]; exact sw _ _ g3, (g4.keep sw).write (sw _ _ g5), upd_same, ?_⟩
      have et : (stz false os oh).take (i + 1) = (stz false os oh).take i ++ [(os[i]'(by omega), hiF false (os[i]'(by omega)) (oh[i]'(by omega)))] := by
        have : (stz false os oh)[i]? = some (os[i]'(by omega), hiF false (os[i]'(by omega)) (oh[i]'(by omega))) := by
          unfold stz
          rw [List.getElem?_zipWith, List.getElem?_eq_getElem (show i < os.length by omega), List.getElem?_eq_getElem (show i < oh.length by omega)]
        rw [List.take_add_one, this] <;> rfl
      rw [et]
      exact ((g6.keep sw).app (show RowP _ [_] [.ref w] from ⟨w, b1, z, [], rfl, upd_same, f1.keep sw, sz.keep sw, rfl⟩)).write (sw _ _ g5)
  · rintro σ H4 ⟨sm4, zs, w1, w2, w3, w4, rfl, g1, g2, g3, g4, g5, g6⟩
    rw [List.take_of_length_le (by unfold stz; simp; omega)] at g6
    exact ⟨_, rfl, q F H4 zs _ sm4 g5 g6 (stz_rule n1 n12 up1 up2 (by omega) (by omega)) (stz_sm20 zo zh)⟩
structure Pq (H : Hp) (f : Addr) (r : Rat) : Prop where
  ob : ∃ t b : Int, H f = some (.tup [.int t, .int b]) ∧ 0 < b ∧ 0 ≤ t ∧ t ≤ b ∧ r * (b : Rat) = (t : Rat) ∧ Sz 300 b
theorem Pq.keep {H H' : Hp} {f : Addr} {r : Rat} (h : Pq H f r) (s : Same H H') : Pq H' f r := by
  obtain ⟨t, b, e, h⟩ := h.ob
  exact ⟨t, b, s _ _ e, h⟩
theorem Pq.write {H : Hp} {f l : Addr} {r : Rat} {zs ws : List V} (h : Pq H f r) (hl : H l = some (.lst zs)) : Pq (upd H l (.lst ws)) f r := by
  obtain ⟨t, b, e, h⟩ := h.ob
  exact ⟨t, b, by rw [upd_ne (ne_of e hl (by intro z; cases z))]; exact e, h⟩
theorem Pq.fq {H : Hp} {f : Addr} {r : Rat} (h : Pq H f r) : Fq H f r := by
  obtain ⟨t, b, e, h1, h2, h3, h4, h5⟩ := h.ob
  exact ⟨t, b, e, h1, h4, (sz_le h2 h3 h5).smk (by decide), h5.smk (by decide)⟩
theorem Pq.unit {H : Hp} {f : Addr} {r : Rat} (h : Pq H f r) : 0 ≤ r ∧ r ≤ 1 := by
  obtain ⟨t, b, e, h1, h2, h3, h4, h5⟩ := h.ob
  have bq : (0 : Rat) < (b : Rat) := by exact_mod_cast h1
  have tq : (0 : Rat) ≤ (t : Rat) := by exact_mod_cast h2
  have lq : (t : Rat) ≤ (b : Rat) := by exact_mod_cast h3
  have n0 : 0 ≤ r := nonneg_of bq (by grind)
  have n1 : 0 ≤ 1 - r := nonneg_of bq (by grind)
  exact ⟨n0, by grind⟩
theorem Shp.pq {H : Hp} {a : Addr} {r : Rat} (h : Shp H a r) : Pq H a r := ⟨_, _, h.ob, rden r, h.num.1, h.num.2, by have := rsplit r; rw [Rat.intCast_natCast]; exact this, h.sz.mono (by decide)⟩
noncomputable def spCvr : Sp := fun vs H Q _ => ∃ (n : Nat) (l : Addr) (zs : List V) (ps : List (Rat × Rat)) (f : Addr) (r : Rat), vs = [.int n, .ref l, .ref f] ∧ H l = some (.lst zs) ∧ RowP H ps zs ∧ IsRule n ps ∧ Pq H f r ∧ ∀ x H', Same H H' → H' x = some (.tup [.int (rsumO r n (runOf ps r r)).num, .int ((rsumO r n (runOf ps r r)).den : Int)]) → Q (.ref x) H'
theorem heldB_no {n : Nat} {ps : List (Rat × Rat)} (ok : IsRule n ps) {r : Rat} {k : Nat} {p : Rat × Rat} (e : ps[k]? = some p) : (lower r (highsOf ps) ≤ k ∧ k < upto r (lowsOf ps)) ↔ (p.1 ≤ r ∧ r ≤ p.2) :=
  held_iff ok.lows ok.highs (by rw [List.getElem?_map, e]; rfl) (by rw [List.getElem?_map, e]; rfl)
theorem sc_cvr : FnScope ["_law_n", "_law_stretches_here", "_law_p", "_law_won", "_law_lost", "_law_row", "_law_total", "_law_k"] ["_law_n", "_law_stretches_here", "_law_p"] (defScope s_cvr) := ⟨rfl, rfl, rfl, by decide +kernel, rfl, by decide +kernel, by decide +kernel⟩
theorem ok_cvr {f : Addr} {fd : FuncData} (F : Fun K "_law_cover" "_law_cover" s_cvr f fd) (T : Txt mg) {fpows : Addr} {dpows : FuncData} (Gpows : FnOk P w K mg base CX0 2 fpows dpows ["_law_number", "_law_many"] spPows) (bpows : Binds K dpows ["_law_number", "_law_many"] []) (kpows : PySem.W.keepIn K (.ref fpows) = true) (mpows : mg "_law_powers" = some (.ref fpows)) {fchs : Addr} {dchs : FuncData} (Gchs : FnOk P w K mg base CX0 2 fchs dchs ["_law_n"] spChs) (bchs : Binds K dchs ["_law_n"] []) (kchs : PySem.W.keepIn K (.ref fchs) = true) (mchs : mg "_law_choices" = some (.ref fchs)) {fnm : Addr} {dnm : FuncData} (Gnm : FnOk P w K mg base CX0 2 fnm dnm ["_law_one", "_law_other"] spNm) (bnm : Binds K dnm ["_law_one", "_law_other"] []) (knm : PySem.W.keepIn K (.ref fnm) = true) (mnm : mg "_law_no_more" = some (.ref fnm)) {flow : Addr} {dlow : FuncData} (Glow : FnOk P w K mg base CX0 2 flow dlow ["_law_top", "_law_bottom"] spLw) (blow : Binds K dlow ["_law_top", "_law_bottom"] []) (klow : PySem.W.keepIn K (.ref flow) = true) (mlow : mg "_law_lowest" = some (.ref flow)) : FnOk P w K mg base CX0 3 f fd ["_law_n", "_law_stretches_here", "_law_p"] spCvr := by
  refine F.ok sc_cvr (fun vs H Q E h => ?_) (fun cdv A outer s H vs Q E hr h => ?_)
  · obtain ⟨n, l, zs, ps, f, r, rfl, _⟩ := h
    rfl
  obtain ⟨n, l, zs, ps, f, r, rfl, hl, row, ok, pq, q⟩ := h
  refine ⟨_, (pss_cons (ps_set (i := 3) sc_cvr.nd rfl (Or.inl rfl) (pe_call Gpows hr rfl mpows kpows bpows .nil pass0 (pa_cons (pe_ix ix_tup (pv 2) pe_int (fun _ _ => rfl)) (pa_cons (pv 0) pa_nil))))
    (pss_cons (ps_set (i := 4) sc_cvr.nd rfl (Or.inl rfl) (pe_call Gpows hr rfl mpows kpows bpows .nil pass0 (pa_cons (pe_op op_sub (pe_ix ix_tup (pv 2) pe_int (fun _ _ => rfl)) (pe_ix ix_tup (pv 2) pe_int (fun _ _ => rfl))) (pa_cons (pv 0) pa_nil))))
    (pss_cons (ps_set (i := 5) sc_cvr.nd rfl (Or.inl rfl) (pe_call Gchs hr rfl mchs kchs bchs .nil pass0 (pa_cons (pv 0) pa_nil)))
    (pss_cons (ps_set (i := 6) sc_cvr.nd rfl (Or.inl rfl) pe_int)
    (pss_cons (ps_for PassesOwn.never rfl (pi_range1 rfl T.range (pa_cons (pe_op op_add (pv 0) pe_int) pa_nil)) (pg_name (i := 7) sc_cvr.nd rfl (Or.inl rfl)) (pss_one (ps_if (PW.pt (pw_and (pt_val (pe_call Gnm hr rfl mnm knm bnm .nil pass0 (pa_cons (pe_ix ix_tup (pe_ix ix_list (pv 1) (pv 7) (fun _ _ => rfl)) pe_int (fun _ _ => rfl)) (pa_cons (pv 2) pa_nil)))) (pw_and1 (pt_val (pe_call Gnm hr rfl mnm knm bnm .nil pass0 (pa_cons (pv 2) (pa_cons (pe_ix ix_tup (pe_ix ix_list (pv 1) (pv 7) (fun _ _ => rfl)) pe_int (fun _ _ => rfl)) pa_nil))))))) (pss_one (ps_set (i := 6) sc_cvr.nd rfl (Or.inl rfl) (pe_op op_add (pv 6) (pe_op op_mulK (pe_op op_mulK (pe_ix ix_list (pv 5) (pv 7) (fun _ _ => rfl)) (pe_ix ix_list (pv 3) (pv 7) (fun _ _ => rfl))) (pe_ix ix_list (pv 4) (pe_op op_sub (pv 0) (pv 7)) (fun _ _ => rfl)))))) pss_nil)))
    (pss_one (ps_ret (pe_call Glow hr rfl mlow klow blow .nil pass0 (pa_cons (pv 6) (pa_cons (pe_ix ix_list (pe_call Gpows hr rfl mpows kpows bpows .nil pass0 (pa_cons (pe_ix ix_tup (pv 2) pe_int (fun _ _ => rfl)) (pa_cons (pv 0) pa_nil))) (pv 0) (fun _ _ => rfl)) pa_nil)))))))))), ?_⟩
  have lz := row.len
  have l13 := ok.len
  have n12 := ok.n12
  have fq := pq.fq
  have un := pq.unit
  obtain ⟨t, b, ef, b0, t0, tb, er, szb⟩ := pq.ob
  have szt : Sz 300 t := sz_le t0 tb szb
  have szd : Sz 300 (b - t) := sz_sub t0 tb szb
  refine ⟨_, rfl, f, _, 0, _, rfl, rfl, SqT.of ef, at0, _, rfl, t, n, rfl, szt.mono (by decide), n12, fun lw H1 s1 hw => ?_⟩
  refine ⟨_, rfl, f, _, 1, _, rfl, rfl, SqT.of (s1 _ _ ef), at1, _, rfl, f, _, 0, _, rfl, rfl, SqT.of (s1 _ _ ef), at0, _, _, rfl, rfl, _, rfl, b - t, n, rfl, szd.mono (by decide), n12, fun ll H2 s2 hL => ?_⟩
  refine ⟨_, rfl, n, rfl, n12, fun lr H3 s3 hR => ?_⟩
  have s13 := (s1.trans s2).trans s3
  have hw3 := s3 _ _ (s2 _ _ hw)
  have hL3 := s3 _ _ hL
  refine ⟨_, rfl, _, _, rfl, rfl, _, rfl, by omega, by omega, ?_⟩
  have en : ((n : Int) + 1).toNat = n + 1 := by omega
  rw [en]
  refine for_range (lo := 0) (fun k σ H' => H' = H3 ∧ ∃ v, σ = [some (.int n), some (.ref l), some (.ref f), some (.ref lw), some (.ref ll), some (.ref lr), some (.int (ism (hT (lowsOf ps) (highsOf ps) r t b n) k)), v]) ⟨rfl, none, rfl⟩ ?_ ?_
  · rintro k σ H' hk ⟨rfl, v, rfl⟩
    have hk' : k ≤ n := by omega
    have ek : (0 : Int) + (k : Int) = (k : Int) := by omega
    rw [ek]
    have epk := List.getElem?_eq_getElem (show k < ps.length by omega)
    obtain ⟨d, la, ha, f1, f2, f3, f4⟩ := (row.keep s13).get epk
    have hB := heldB_no ok (r := r) epk
    have hl3 := s13 _ _ hl
    have fq3 := fq.keep s13
    have nx : ism (hT (lowsOf ps) (highsOf ps) r t b n) (k + 1) = ism (hT (lowsOf ps) (highsOf ps) r t b n) k + hT (lowsOf ps) (highsOf ps) r t b n k := rfl
    rw [nx]
    unfold hT
    refine ⟨_, rfl, _, rfl, l, _, _, _, rfl, rfl, SqL.of hl3, atI_nat f1, d, _, 0, _, rfl, rfl, SqT.of f2, at0, _, rfl, la, f, _, _, rfl, f3.fq, fq3, _, rfl, ?_⟩
    by_cases c1 : ps[k].1 ≤ r
    · rw [decide_eq_true c1]
      refine iteT ⟨_, rfl, _, rfl, _, rfl, l, _, _, _, rfl, rfl, SqL.of hl3, atI_nat f1, d, _, 1, _, rfl, rfl, SqT.of f2, at1, f, ha, _, _, rfl, fq3, f4.fq, _, rfl, ?_⟩
      by_cases c2 : r ≤ ps[k].2
      · rw [decide_eq_true c2, if_pos (hB.mpr ⟨c1, c2⟩)]
        have z1 : Sz (300 * k + 1) (t ^ k) := szt.powN _
        have z2 : Sz (300 * (n - k) + 1) ((b - t) ^ (n - k)) := szd.powN _
        have z3 := (sz_binom n k).mul z1
        have e1 : ((k : Int)).toNat = k := rfl
        have e2 : ((n : Int) - (k : Int)).toNat = n - k := by omega
        have a1 : atI ((rowV n).map V.int) (k : Int) = some (.int (binom n k : Int)) := by
          have := at_getD (ns := rowV n) (i := (k : Int)) (by omega) (by rw [rowV_len]; omega)
          rw [e1, rowV_at hk'] at this; exact this
        have a2 : atI ((powV t n).map V.int) (k : Int) = some (.int (t ^ k)) := by
          have := at_getD (ns := powV t n) (i := (k : Int)) (by omega) (by rw [powV_len]; omega)
          rw [e1, powV_at hk'] at this; exact this
        have a3 : atI ((powV (b - t) n).map V.int) ((n : Int) - (k : Int)) = some (.int ((b - t) ^ (n - k))) := by
          have := at_getD (ns := powV (b - t) n) (i := (n : Int) - (k : Int)) (by omega) (by rw [powV_len]; omega)
          rw [e2, powV_at (by omega)] at this; exact this
        refine iteT ⟨_, rfl, _, rfl, _, rfl, lr, _, _, _, rfl, rfl, SqL.of hR, a1, _, rfl, _, rfl, lw, _, _, _, rfl, rfl, SqL.of hw3, a2, _, _, rfl, rfl, ⟨(sz_binom n k).smk (by omega), z1.smk (by omega)⟩, _, rfl, _, rfl, _, rfl, _, _, rfl, rfl, ll, _, _, _, rfl, rfl, SqL.of hL3, a3, _, _, rfl, rfl, ⟨z3.smk (by omega), z2.smk (by omega)⟩, _, _, rfl, rfl, rfl, _, rfl⟩
      · rw [decide_eq_false c2, if_neg (fun z => c2 (hB.mp z).2), Int.add_zero]
        exact iteF ⟨rfl, _, rfl⟩
    · rw [decide_eq_false c1, if_neg (fun z => c1 (hB.mp z).1), Int.add_zero]
      exact iteF (iteF ⟨rfl, _, rfl⟩)
  rintro σ H' ⟨rfl, v, rfl⟩
  refine ⟨_, rfl, _, rfl, f, _, 1, _, rfl, rfl, SqT.of (s13 _ _ ef), at1, _, rfl, b, n, rfl, szb.mono (by decide), n12, fun lp H4 s4 hP => ?_⟩
  have e1 : ((n : Int)).toNat = n := rfl
  have a4 : atI ((powV b n).map V.int) (n : Int) = some (.int (b ^ n)) := by
    have := at_getD (ns := powV b n) (i := (n : Int)) (by omega) (by rw [powV_len]; omega)
    rw [e1, powV_at (Nat.le_refl n)] at this; exact this
  have hi := hT_is (ls := lowsOf ps) (hs := highsOf ps) (r := r) (t := t) (b := b) (n := n) (by rw [List.length_map, l13]; exact Nat.le_refl _) (by rw [List.length_map, l13]; exact Nat.le_refl _) er
  rw [← cov_run] at hi
  have bn : 0 < b ^ n := Int.pow_pos b0
  have szn : Smk (b ^ n) := (szb.powN n).smk (by omega)
  have uu := rsumO_unit (n := n) un.1 un.2 (runOf ps r r)
  have qn : (0 : Rat) ≤ ((b ^ n : Int) : Rat) := by exact_mod_cast Int.le_of_lt bn
  have l0 : 0 ≤ ism (hT (lowsOf ps) (highsOf ps) r t b n) (n + 1) := by
    have : (0 : Rat) ≤ ((ism (hT (lowsOf ps) (highsOf ps) r t b n) (n + 1) : Int) : Rat) := by rw [← hi]; exact Rat.mul_nonneg uu.1 qn
    exact_mod_cast this
  have l1 : ism (hT (lowsOf ps) (highsOf ps) r t b n) (n + 1) ≤ b ^ n := by
    have : ((ism (hT (lowsOf ps) (highsOf ps) r t b n) (n + 1) : Int) : Rat) ≤ ((b ^ n : Int) : Rat) := by
      rw [← hi]
      have := rle (a := rsumO r n (runOf ps r r)) (b := 1) uu.2 qn
      grind
    exact_mod_cast this
  refine ⟨_, rfl, lp, _, _, _, rfl, rfl, SqL.of hP, a4, _, b ^ n, rfl, l0, bn, szn, fun x H5 s5 hx => ?_⟩
  have er2 : rq (ism (hT (lowsOf ps) (highsOf ps) r t b n) (n + 1)) (b ^ n) = rsumO r n (runOf ps r r) := by
    have hq : ((b ^ n : Int) : Rat) ≠ 0 := by intro e; have : b ^ n = 0 := by exact_mod_cast e
                                              omega
    unfold rq
    rw [← hi]
    grind
  rw [er2] at hx
  exact q x _ ((s13.trans s4).trans s5) hx
theorem boot_str : bootBuiltins "str" = some (.type "str") := by decide +kernel
theorem kit_str {K : PySem.W.Frag} (x : Str) : PySem.W.kitOne K (tyTh (.str x)) (.type "str") = some true := rfl
noncomputable def spIsf : Sp := fun vs H Q _ => ∃ (f : Addr) (r : Rat), vs = [.ref f] ∧ H f = some (.tup [.int r.num, .int (r.den : Int)]) ∧ Q (.bl true) H
theorem sc_isf : FnScope ["_law_thing", "_law_one"] ["_law_thing"] (defScope s_isf) := ⟨rfl, rfl, rfl, by decide +kernel, rfl, by decide +kernel, by decide +kernel⟩
theorem ok_isf {f : Addr} {fd : FuncData} (F : Fun K "_law_is_fraction" "_law_is_fraction" s_isf f fd) (T : Txt mg) {fdv : Addr} {ddv : FuncData} (Gdv : FnOk P w K mg base CX0 1 fdv ddv ["_law_one", "_law_other"] spCd) (bdv : Binds K ddv ["_law_one", "_law_other"] []) (kdv : PySem.W.keepIn K (.ref fdv) = true) (mdv : mg "_law_divisor" = some (.ref fdv)) : FnOk P w K mg base CX0 2 f fd ["_law_thing"] spIsf := by
  refine F.ok sc_isf (fun vs H Q E h => ?_) (fun cdv A outer s H vs Q E hr h => ?_)
  · obtain ⟨f, r, rfl, _⟩ := h
    rfl
  obtain ⟨f, r, rfl, hf, q⟩ := h
  refine ⟨_, (pss_cons (ps_if (PW.pt (pw_or (pt_not (pt_val (pe_callB call_isinstD rfl T.isinstance boot_isinstance (pa_cons (pv 0) (pa_cons (pe_bltn (v := .ty "tuple") rfl T.tuple boot_tuple rfl) pa_nil))))) (pw_or1 (pt_cmpR op_ne (pe_callB call_len_seq rfl T.len boot_len (pa_cons (pv 0) pa_nil)) pe_int (nomark _))))) (pss_one (ps_ret pe_bl)) pss_nil)
    (pss_cons (ps_for PassesOwn.never rfl (pi_tup (pv 0)) (pg_name (i := 1) sc_isf.nd rfl (Or.inl rfl)) (pss_one (ps_if (PW.pt (pw_or (pt_not (pt_val (pe_callB call_isinstD rfl T.isinstance boot_isinstance (pa_cons (pv 1) (pa_cons (pe_bltn (v := .ty "int") rfl T.int boot_int rfl) pa_nil))))) (pw_or1 (pt_val (pe_callB call_isinstD rfl T.isinstance boot_isinstance (pa_cons (pv 1) (pa_cons (pe_bltn (v := .ty "bool") rfl T.bool boot_bool rfl) pa_nil))))))) (pss_one (ps_ret pe_bl)) pss_nil)))
    (pss_one (ps_ret (pe_and (pe_cmpR op_gt (pe_ix ix_tup (pv 0) pe_int (fun _ _ => rfl)) pe_int (nomark _)) (pe_one (pe_cmpR op_eq (pe_call Gdv hr rfl mdv kdv bdv .nil pass0 (pa_cons (pe_callB call_abs rfl T.abs boot_abs (pa_cons (pe_ix ix_tup (pv 0) pe_int (fun _ _ => rfl)) pa_nil)) (pa_cons (pe_ix ix_tup (pv 0) pe_int (fun _ _ => rfl)) pa_nil))) pe_int (nomark _)))))))), ?_⟩
  refine ⟨_, rfl, .ref f, frT2 r, _, _, rfl, den_p hf, kit_tuple _, _, rfl, iteF ?_⟩
  refine ⟨_, rfl, f, _, rfl, .inr (SqT.of hf), rfl, _, rfl, iteF ?_⟩
  refine ⟨_, rfl, f, rfl, ⟨_, SqT.of hf⟩, ?_⟩
  refine for_tup (xs := [V.int r.num, V.int (r.den : Int)]) (fun j σ H' => H' = H ∧ ∃ v, σ = [some (.ref f), v]) ⟨rfl, none, rfl⟩ ?_ ?_ ?_
  · rintro j σ H' hj ⟨rfl, _⟩
    exact SqT.of hf
  · rintro j z σ H' hz ⟨rfl, v, rfl⟩
    obtain ⟨i, rfl⟩ : ∃ i : Int, z = V.int i := by
      match j, hz with
      | 0, hz => exact ⟨r.num, by simpa using hz.symm⟩
      | 1, hz => exact ⟨(r.den : Int), by simpa using hz.symm⟩
    exact ⟨_, rfl, _, .int i, _, _, rfl, rfl, kit_int _, _, rfl, iteF ⟨_, rfl, _, .int i, _, _, rfl, rfl, kit_bool _, _, rfl, iteF ⟨rfl, _, rfl⟩⟩⟩
  rintro σ H' ⟨rfl, v, rfl⟩
  refine ⟨_, rfl, f, _, 1, _, rfl, rfl, SqT.of hf, at1, _, _, rfl, rfl, ?_⟩
  refine ⟨_, rfl, ?_⟩
  dsimp only
  rw [decide_eq_true (rden r)]
  refine iteT ⟨_, rfl, f, _, 0, _, rfl, rfl, SqT.of hf, at0, _, rfl, _, rfl, f, _, 1, _, rfl, rfl, SqT.of hf, at1, _, _, rfl, (by split <;> omega), Int.le_of_lt (rden r), rfl, ?_⟩
  refine eqT (congrArg V.int ?_) q
  have e : Int.gcd (if r.num < 0 then -r.num else r.num) (r.den : Int) = 1 := by
    split
    · show Nat.gcd (-r.num).natAbs _ = 1
      rw [Int.natAbs_neg]
      exact rgcd r
    · exact rgcd r
  rw [e] <;> rfl
noncomputable def GoodS (r s : Rat) : Prop := ∃ B : Nat, 0 < B ∧ B < 2 ^ 70 ∧ Ov (r.den * B) s
theorem gs_own {r s : Rat} {B : Nat} (h0 : 0 < B) (h1 : B < 2 ^ 70) (h : Ov B s) : GoodS r s := ⟨B, h0, h1, h.up (Nat.dvd_mul_left ..)⟩
theorem gs_self (r : Rat) : GoodS r r := ⟨1, by decide, by decide, by rw [Nat.mul_one]; exact Ov.self r⟩
theorem rq_ov {t b : Int} {B : Nat} (e : b = (B : Int)) (hb : 0 < b) : Ov B (rq t b) := ⟨t, by have := rq_mul20 (t := t) hb; rw [e] at this ⊢; rw [Rat.intCast_natCast] at this; exact this⟩
noncomputable def AllS (H : Hp) (r : Rat) (xs : List V) : Prop := ∀ x ∈ xs, ∃ f s, x = V.ref f ∧ Shp H f s ∧ GoodS r s
theorem AllS.keep {H H' : Hp} {r : Rat} {xs : List V} (h : AllS H r xs) (s : Same H H') : AllS H' r xs := fun x hx => by
  obtain ⟨f, r, e, p, g⟩ := h x hx
  exact ⟨f, r, e, p.keep s, g⟩
theorem AllS.write {H : Hp} {r : Rat} {l : Addr} {xs zs ws : List V} (h : AllS H r xs) (hl : H l = some (.lst zs)) : AllS (upd H l (.lst ws)) r xs := fun x hx => by
  obtain ⟨f, r, e, p, g⟩ := h x hx
  exact ⟨f, r, e, p.write hl, g⟩
theorem AllS.app {H : Hp} {r : Rat} {xs ys : List V} (h : AllS H r xs) (k : AllS H r ys) : AllS H r (xs ++ ys) := fun x hx => by
  rcases List.mem_append.mp hx with q | q
  · exact h x q
  · exact k x q
theorem AllS.one {H : Hp} {r : Rat} {f : Addr} {s : Rat} (h : Shp H f s) (g : GoodS r s) : AllS H r [.ref f] := fun x hx => by
  rw [List.mem_singleton.mp hx]
  exact ⟨f, s, rfl, h, g⟩
noncomputable abbrev hairL : List Int := [7, 10 ^ (6 : Int).toNat, 10 ^ (20 : Int).toNat]
theorem hair_in {k : Int} (k0 : 0 ≤ k) (k1 : k < 3) : 0 < hairL.getD k.toNat 0 ∧ Sz 68 (hairL.getD k.toNat 0) := by
  have : k = 0 ∨ k = 1 ∨ k = 2 := by omega
  rcases this with rfl | rfl | rfl <;> exact ⟨by decide +kernel, by show Int.natAbs _ < 2 ^ 68; decide +kernel⟩
noncomputable abbrev twoL : List Int := [100, 10 ^ (9 : Int).toNat]
theorem two_in {k : Int} (k0 : 0 ≤ k) (k1 : k < 2) : 0 < twoL.getD k.toNat 0 ∧ twoL.getD k.toNat 0 ≤ 1000000000 := by
  have : k = 0 ∨ k = 1 := by omega
  rcases this with rfl | rfl <;> decide +kernel
theorem end_hair {r : Rat} {h : Int} (rn : 0 ≤ r.num ∧ r.num ≤ (r.den : Int)) (zr : Sz 120 (r.den : Int)) (h0 : 0 < h) (zh : Sz 68 h) : 0 < (r.den : Int) * h ∧ 0 ≤ r.num * h ∧ r.num * h ≤ (r.den : Int) * h ∧ Sz 188 ((r.den : Int) * h) ∧ (r.den : Int) ≤ (r.den : Int) * h :=
  ⟨Int.mul_pos (rden r) h0, Int.mul_nonneg rn.1 (by omega), Int.mul_le_mul_of_nonneg_right rn.2 (by omega), zr.mul zh, by have := Int.mul_le_mul_of_nonneg_left (show 1 ≤ h by omega) (Int.le_of_lt (rden r)); rw [Int.mul_one] at this; exact this⟩
theorem gs_hair {r : Rat} {h t : Int} (h0 : 0 < h) (zh : Sz 68 h) : GoodS r (rq t ((r.den : Int) * h)) := by
  have e : ((h.toNat : Nat) : Int) = h := by omega
  refine ⟨h.toNat, by omega, ?_, rq_ov ?_ (Int.mul_pos (rden r) h0)⟩
  · unfold Sz at zh
    exact Nat.lt_of_lt_of_le (show h.toNat < 2 ^ 68 by omega) (Nat.pow_le_pow_right (by decide) (by decide))
  · push_cast
    rw [e]
noncomputable def spShs (K : PySem.W.Frag) : Sp := fun vs H Q _ => ∃ (a : Addr) (ns : List Int) (lo : Addr) (r : Rat), vs = [.ref a, .ref lo] ∧ SqL K H a (ns.map V.int) ∧ Shp H lo r ∧ Sz 120 (r.den : Int) ∧ ∀ x H' xs, Same H H' → H' x = some (.lst xs) → xs.length < 40 → AllS H' r xs → Q (.ref x) H'
theorem sc_shs : FnScope ["_law_script", "_law_low", "_law_found", "_law_xs", "_law_hair", "_law_k", "_law_bottom"] ["_law_script", "_law_low"] (defScope s_shs) := ⟨rfl, rfl, rfl, by decide +kernel, rfl, by decide +kernel, by decide +kernel⟩
theorem ok_shs {f : Addr} {fd : FuncData} (F : Fun K "_law_shares" "_law_shares" s_shs f fd) (T : Txt mg) {fcell : Addr} {dcell : FuncData} (Gcell : FnOk P w K mg base CX0 2 fcell dcell ["_law_script", "_law_k"] (spCell K)) (bcell : Binds K dcell ["_law_script", "_law_k"] []) (kcell : PySem.W.keepIn K (.ref fcell) = true) (mcell : mg "_law_cell_at" = some (.ref fcell)) {fstream : Addr} {dstream : FuncData} (Gstream : FnOk P w K mg base CX0 2 fstream dstream ["_law_cell", "_law_salt", "_law_many"] spStream) (bstream : Binds K dstream ["_law_cell", "_law_salt", "_law_many"] []) (kstream : PySem.W.keepIn K (.ref fstream) = true) (mstream : mg "_law_stream" = some (.ref fstream)) {flow : Addr} {dlow : FuncData} (Glow : FnOk P w K mg base CX0 2 flow dlow ["_law_top", "_law_bottom"] spLw) (blow : Binds K dlow ["_law_top", "_law_bottom"] []) (klow : PySem.W.keepIn K (.ref flow) = true) (mlow : mg "_law_lowest" = some (.ref flow)) : FnOk P w K mg base CX0 3 f fd ["_law_script", "_law_low"] (spShs K) := by
  refine F.ok sc_shs (fun vs H Q E h => ?_) (fun cdv A outer s H vs Q E hr h => ?_)
  · obtain ⟨a, ns, lo, r, rfl, _⟩ := h
    rfl
  obtain ⟨a, ns, lo, r, rfl, hS, sr, zr, q⟩ := h
  refine ⟨_, (pss_cons (ps_set (i := 2) sc_shs.nd rfl (Or.inl rfl) (pe_lst (pa_cons (pe_tup (pa_cons pe_int (pa_cons pe_int pa_nil))) (pa_cons (pe_tup (pa_cons pe_int (pa_cons pe_int pa_nil))) (pa_cons (pv 1) pa_nil)))))
    (pss_cons (ps_set (i := 3) sc_shs.nd rfl (Or.inl rfl) (pe_call Gstream hr rfl mstream kstream bstream .nil pass0 (pa_cons (pe_call Gcell hr rfl mcell kcell bcell .nil pass0 (pa_cons (pv 0) (pa_cons pe_int pa_nil))) (pa_cons pe_int (pa_cons pe_int pa_nil)))))
    (pss_cons (ps_set (i := 4) sc_shs.nd rfl (Or.inl rfl) (pe_ix ix_list (pe_lst (pa_cons pe_int (pa_cons (pe_op op_pow pe_int pe_int) (pa_cons (pe_op op_pow pe_int pe_int) pa_nil)))) (pe_op op_mod (pe_ix ix_list (pv 3) pe_int (fun _ _ => rfl)) pe_int) (fun _ _ => rfl)))
    (pss_cons (ps_expr (pe_bm PySem.F.plainAttrs_list PySem.F.slot_list_append PySem.F.type_list_append mt_append (pv 2) (pa_cons (pe_call Glow hr rfl mlow klow blow .nil pass0 (pa_cons (pe_callB (call_max2 rfl) rfl T.max boot_max (pa_cons pe_int (pa_cons (pe_op op_sub (pe_op op_mulK (pe_ix ix_tup (pv 1) pe_int (fun _ _ => rfl)) (pv 4)) (pe_ix ix_tup (pv 1) pe_int (fun _ _ => rfl))) pa_nil))) (pa_cons (pe_op op_mulK (pe_ix ix_tup (pv 1) pe_int (fun _ _ => rfl)) (pv 4)) pa_nil))) pa_nil)))
    (pss_cons (ps_expr (pe_bm PySem.F.plainAttrs_list PySem.F.slot_list_append PySem.F.type_list_append mt_append (pv 2) (pa_cons (pe_call Glow hr rfl mlow klow blow .nil pass0 (pa_cons (pe_callB (call_min2 rfl) rfl T.min boot_min (pa_cons (pe_op op_mulK (pe_ix ix_tup (pv 1) pe_int (fun _ _ => rfl)) (pv 4)) (pa_cons (pe_op op_add (pe_op op_mulK (pe_ix ix_tup (pv 1) pe_int (fun _ _ => rfl)) (pv 4)) pe_int) pa_nil))) (pa_cons (pe_op op_mulK (pe_ix ix_tup (pv 1) pe_int (fun _ _ => rfl)) (pv 4)) pa_nil))) pa_nil)))
    (pss_cons (ps_for PassesOwn.never rfl (pi_range1 rfl T.range (pa_cons pe_int pa_nil)) (pg_name (i := 5) sc_shs.nd rfl (Or.inl rfl)) (pss_cons (ps_set (i := 6) sc_shs.nd rfl (Or.inl rfl) (pe_op op_add pe_int (pe_op op_mod (pe_ix ix_list (pv 3) (pe_op op_add pe_int (pv 5)) (fun _ _ => rfl)) (pe_ix ix_list (pe_lst (pa_cons pe_int (pa_cons (pe_op op_pow pe_int pe_int) pa_nil))) (pv 5) (fun _ _ => rfl)))))
      (pss_one (ps_expr (pe_bm PySem.F.plainAttrs_list PySem.F.slot_list_append PySem.F.type_list_append mt_append (pv 2) (pa_cons (pe_call Glow hr rfl mlow klow blow .nil pass0 (pa_cons (pe_op op_mod (pe_ix ix_list (pv 3) (pe_op op_add pe_int (pv 5)) (fun _ _ => rfl)) (pe_op op_add (pv 6) pe_int)) (pa_cons (pv 6) pa_nil))) pa_nil))))))
    (pss_one (ps_ret (pv 2))))))))), ?_⟩
  refine ⟨(by show 2 ≤ sizeLine; decide), fun a0 h0 => ⟨(by show 2 ≤ sizeLine; decide), fun a1 h1 => ⟨_, rfl, (by show 3 ≤ sizeLine; decide), fun m hm => ?_⟩⟩⟩
  have s0 := same_new h0 (.tup [V.int 0, V.int 1])
  have s1 := same_new h1 (.tup [V.int 1, V.int 1])
  have s3 := same_new hm (.lst [V.ref a0, V.ref a1, V.ref lo])
  have s03 := (s0.trans s1).trans s3
  have q0 := (((shp0 (H := upd H a0 (.tup [V.int 0, V.int 1])) upd_same).keep s1).keep s3)
  have q1 := ((shp1 (H := upd (upd H a0 (.tup [V.int 0, V.int 1])) a1 (.tup [V.int 1, V.int 1])) upd_same).keep s3)
  have hmn := none_back (s0.trans s1) hm
  have hm3 : (upd (upd (upd H a0 (.tup [V.int 0, V.int 1])) a1 (.tup [V.int 1, V.int 1])) m (.lst [V.ref a0, V.ref a1, V.ref lo])) m = some (.lst [V.ref a0, V.ref a1, V.ref lo]) := upd_same
  generalize hH3 : upd (upd (upd H a0 (.tup [V.int 0, V.int 1])) a1 (.tup [V.int 1, V.int 1])) m (.lst [V.ref a0, V.ref a1, V.ref lo]) = H3 at *
  have al3 : AllS H3 r [V.ref a0, V.ref a1, V.ref lo] := ((AllS.one q0 (gs_own (B := 1) (by decide) (by decide) ⟨0, by simp⟩)).app (AllS.one q1 (gs_own (B := 1) (by decide) (by decide) (Ov.one 1)))).app (AllS.one (sr.keep s03) (gs_self r))
  refine ⟨_, rfl, a, ns, 18, rfl, s03.seq hS, by decide, _, _, 6, rfl, by decide, by decide, by decide, fun lx H4 xs fx s4 hx lx6 xin => ?_⟩
  have gx : ∀ k : Int, 0 ≤ k → k < 6 → atI (xs.map V.int) k = some (.int (xs.getD k.toNat 0)) := fun k h0 hk => at_getD (ns := xs) (i := k) h0 (by omega)
  have g0 : atI (xs.map V.int) 0 = some (.int (xs.getD 0 0)) := gx 0 (by decide) (by decide)
  have xi : ∀ k : Nat, k < 6 → 0 ≤ xs.getD k 0 ∧ xs.getD k 0 < 2147483647 := fun k hk => xin _ (getD_mem (by omega))
  have k0 := md0 (xs.getD 0 0) (show (0 : Int) < 3 by decide)
  have k0' := md1 (xs.getD 0 0) (show (0 : Int) < 3 by decide)
  obtain ⟨hp0, zh⟩ := hair_in k0 k0'
  refine ⟨_, _, rfl, rfl, ⟨by decide, by decide, by decide⟩, _, _, rfl, rfl, ⟨by decide, by decide, by decide⟩, (by show 3 ≤ sizeLine; decide), fun p hp => ?_⟩
  have s5 := same_new hp (.lst (hairL.map V.int))
  refine ⟨_, rfl, lx, _, 0, _, rfl, rfl, SqL.of (s5 _ _ hx), g0, _, _, rfl, rfl, (by show (0 : Int) < 3; decide), p, _, _, _, rfl, rfl, SqL.of upd_same, at_getD (ns := hairL) k0 k0', ?_⟩
  have s35 := s4.trans s5
  have s05 := s03.trans s35
  have hm5 := s35 _ _ hm3
  have al5 := al3.keep s35
  have sr5 := sr.keep s05
  have hx5 := s5 _ _ hx
  have nxm : lx ≠ m := fun e => by rw [e, hm3] at fx; cases fx
  generalize hHr : hairL.getD (xs.getD 0 0 % 3).toNat 0 = hr at *
  obtain ⟨y0, y1, y2, y3, y4⟩ := end_hair sr.num zr hp0 zh
  have zn : Sz 120 r.num := sz_le sr.num.1 sr.num.2 zr
  have rd := rden r
  refine ⟨_, rfl, .inl ⟨rfl, _, SqL.of hm5⟩, _, rfl, lo, _, 0, _, rfl, rfl, SqT.of sr5.ob, at0, _, rfl, _, _, rfl, rfl, ⟨zn.smk (by decide), zh.smk (by decide)⟩, _, rfl, lo, _, 1, _, rfl, rfl, SqT.of sr5.ob, at1, _, _, rfl, rfl, _, _, rfl, ?_⟩
  refine ⟨_, rfl, lo, _, 1, _, rfl, rfl, SqT.of sr5.ob, at1, _, rfl, _, _, rfl, rfl, ⟨zr.smk (by decide), zh.smk (by decide)⟩, ?_⟩
  refine ⟨_, _, rfl, (by split <;> omega), y0, y3.smk (by decide), fun w1 H6 s6 hw1 => ?_⟩
  have g1 := (shp_new (t := if (0 : Int) < r.num * hr - (r.den : Int) then r.num * hr - (r.den : Int) else 0) (by split <;> omega) (by split <;> omega) y0 y3 (by decide) hw1).1
  have hm6 := s6 _ _ hm5
  refine ⟨m, _, .ref w1, rfl, rfl, hm6, lt40 (show 3 ≤ 40 by decide), ?_⟩
  have al6 := AllS.write (ws := [V.ref a0, V.ref a1, V.ref lo, V.ref w1]) ((al5.keep s6).app (AllS.one g1 (gs_hair hp0 zh))) hm6
  have sr6 := (sr5.keep s6).write (ws := [V.ref a0, V.ref a1, V.ref lo, V.ref w1]) hm6
  have S6 := same_write (o := .lst [V.ref a0, V.ref a1, V.ref lo, V.ref w1]) (s05.trans s6) hmn
  have hx6 : upd H6 m (.lst [V.ref a0, V.ref a1, V.ref lo, V.ref w1]) lx = some (.lst (xs.map V.int)) := by
    rw [upd_ne nxm]; exact s6 _ _ hx5
  have hm6' : upd H6 m (.lst [V.ref a0, V.ref a1, V.ref lo, V.ref w1]) m = some (.lst [V.ref a0, V.ref a1, V.ref lo, V.ref w1]) := upd_same
  dsimp only
  refine seq_by (fun σ H' => Same H H' ∧ ∃ w2, σ = [some (.ref a), some (.ref lo), some (.ref m), some (.ref lx), some (.int hr), none, none] ∧ H' m = some (.lst [V.ref a0, V.ref a1, V.ref lo, V.ref w1, V.ref w2]) ∧ AllS H' r [V.ref a0, V.ref a1, V.ref lo, V.ref w1, V.ref w2] ∧ H' lx = some (.lst (xs.map V.int))) ?_ ?_
  · intro M hM
    refine ⟨_, rfl, .inl ⟨rfl, _, SqL.of hm6'⟩, _, rfl, lo, _, 1, _, rfl, rfl, SqT.of sr6.ob, at1, _, rfl, _, _, rfl, rfl, ⟨zr.smk (by decide), zh.smk (by decide)⟩, _, rfl, lo, _, 0, _, rfl, rfl, SqT.of sr6.ob, at0, _, rfl, _, _, rfl, rfl, ⟨zn.smk (by decide), zh.smk (by decide)⟩, _, _, rfl, rfl, _, _, rfl, ?_⟩
    refine ⟨_, rfl, lo, _, 1, _, rfl, rfl, SqT.of sr6.ob, at1, _, rfl, _, _, rfl, rfl, ⟨zr.smk (by decide), zh.smk (by decide)⟩, ?_⟩
    refine ⟨_, _, rfl, (by split <;> omega), y0, y3.smk (by decide), fun w2 H7 s7 hw2 => ?_⟩
    have g2 := (shp_new (t := if r.num * hr + 1 < (r.den : Int) * hr then r.num * hr + 1 else (r.den : Int) * hr) (by split <;> omega) (by split <;> omega) y0 y3 (by decide) hw2).1
    have hm7 := s7 _ _ hm6'
    refine ⟨m, _, .ref w2, rfl, rfl, hm7, lt40 (show 4 ≤ 40 by decide), ?_⟩
    exact hM _ _ ⟨same_write (S6.trans s7) hmn, w2, rfl, upd_same, AllS.write ((al6.keep s7).app (AllS.one g2 (gs_hair hp0 zh))) hm7, by rw [upd_ne nxm]; exact s7 _ _ hx6⟩
  rintro σ H7 ⟨S7, w2, rfl, hm7, al7, hx7⟩
  refine ⟨_, rfl, by decide, by decide, ?_⟩
  refine for_range (lo := 0) (fun k σ H' => Same H H' ∧ ∃ us v1 v2, σ = [some (.ref a), some (.ref lo), some (.ref m), some (.ref lx), some (.int hr), v1, v2] ∧ H' m = some (.lst us) ∧ us.length = 5 + k ∧ AllS H' r us ∧ H' lx = some (.lst (xs.map V.int))) ⟨S7, _, none, none, rfl, hm7, rfl, al7, hx7⟩ ?_ ?_
  · rintro k σ H8 hk ⟨S8, us, v1, v2, rfl, hm8, lu, al8, hx8⟩
    have hk2 : k < 2 := hk
    have ek : (0 : Int) + (k : Int) = (k : Int) := by omega
    rw [ek]
    obtain ⟨u0, u1⟩ := two_in (k := (k : Int)) (by omega) (by omega)
    have ga := gx (1 + (k : Int)) (by omega) (by omega)
    have gb := gx (3 + (k : Int)) (by omega) (by omega)
    have t0 := md0 (xs.getD (1 + (k : Int)).toNat 0) u0
    have t1 := md1 (xs.getD (1 + (k : Int)).toNat 0) u0
    dsimp only
    refine seq_by (fun σ H' => Same H8 H' ∧ ∃ B : Int, σ = [some (.ref a), some (.ref lo), some (.ref m), some (.ref lx), some (.int hr), some (.int k), some (.int B)] ∧ 0 < B ∧ B ≤ 1000000000) ?_ ?_
    · intro M hM
      refine ⟨_, rfl, _, rfl, _, _, rfl, rfl, lx, _, _, _, rfl, rfl, SqL.of hx8, ga, _, _, rfl, rfl, ⟨by decide, by decide, by decide⟩, (by show 2 ≤ sizeLine; decide), fun p hp => ?_⟩
      have s9 := same_new hp (.lst (twoL.map V.int))
      exact ⟨_, rfl, p, _, _, _, rfl, rfl, SqL.of upd_same, at_getD (ns := twoL) (by omega) (by show (k : Int) < 2; omega), _, _, rfl, rfl, u0, _, _, rfl, rfl, hM _ _ ⟨s9, 1 + xs.getD (1 + (k : Int)).toNat 0 % twoL.getD ((k : Int)).toNat 0, rfl, by omega, by omega⟩⟩
    rintro σ H9 ⟨s9, B, rfl, B0, B1⟩
    have hm9 := s9 _ _ hm8
    have hx9 := s9 _ _ hx8
    have bp : 0 < B + 1 := by omega
    have zB : Sz 30 B := Nat.lt_of_le_of_lt (show B.natAbs ≤ 1000000000 by omega) (by decide)
    have r0 := md0 (xs.getD (3 + (k : Int)).toNat 0) bp
    have r1 := md1 (xs.getD (3 + (k : Int)).toNat 0) bp
    refine ⟨_, rfl, .inl ⟨rfl, _, SqL.of hm9⟩, _, rfl, _, rfl, _, _, rfl, rfl, lx, _, _, _, rfl, rfl, SqL.of hx9, gb, _, rfl, _, _, rfl, rfl, _, _, rfl, rfl, bp, _, rfl, ?_⟩
    refine ⟨_, _, rfl, r0, B0, zB.smk (by decide), fun w H10 s10 hw => ?_⟩
    have g3 := (shp_new r0 (by omega) B0 zB (by decide) hw).1
    have gg : GoodS r (rq (xs.getD (3 + (k : Int)).toNat 0 % (B + 1)) B) := gs_own (B := B.toNat) (by omega) (Nat.lt_of_le_of_lt (show B.toNat ≤ 1000000000 by omega) (by decide)) (rq_ov (by omega) B0)
    have hm10 := s10 _ _ hm9
    refine ⟨m, us, .ref w, rfl, rfl, hm10, lt40 (by omega), ?_⟩
    exact ⟨same_write ((S8.trans s9).trans s10) hmn, us ++ [.ref w], _, _, rfl, upd_same, by simp; omega, AllS.write (((al8.keep s9).keep s10).app (AllS.one g3 gg)) hm10, by rw [upd_ne nxm]; exact s10 _ _ hx9⟩
  rintro σ H8 ⟨S8, us, v1, v2, rfl, hm8, lu, al8, hx8⟩
  exact ⟨_, rfl, q m H8 us S8 hm8 (by have : us.length = 5 + 2 := lu; omega) al8⟩
theorem FrA.fq {H : Hp} {f : Addr} {r : Rat} (h : FrA H f r) : Fq H f r := ⟨_, _, h.ob, rden r, by have := rsplit r; rw [Rat.intCast_natCast]; exact this, h.st.smk (by decide), h.sb.smk (by decide)⟩
theorem den3 {H : Hp} {p : Addr} {x y z : V} {a b c : Th} (h : H p = some (.tup [x, y, z])) (d1 : Den H a x) (d2 : Den H b y) (d3 : Den H c z) : Den H (.tup [a, b, c]) (.ref p) := ⟨p, _, rfl, h, _, _, rfl, d1, _, _, rfl, d2, _, _, rfl, d3, rfl⟩
noncomputable def sureT (r : Rat) : Th := .tup [.str "sure", frT2 r]
noncomputable def notT (p c : Rat) : Th := .tup [.str "not", frT2 p, frT2 c]
theorem dep_sure (r : Rat) : depT (sureT r) ≤ 60 := by simp [sureT, frT2, depT, depTs]
theorem dep_not (p c : Rat) : depT (notT p c) ≤ 60 := by simp [notT, frT2, depT, depTs]
theorem dep_fr (p : Rat) : depT (frT2 p) ≤ 60 := by simp [frT2, depT, depTs]
noncomputable def Tld (H : Hp) (y : Addr) (n : Nat) (ps : List (Rat × Rat)) (r s p : Rat) : Prop :=
  (s ≤ r ∧ ∃ u, H y = some (.tup [.str "sure", .ref u]) ∧ FrA H u r) ∨
  (r < s ∧ ∃ pa ca, H y = some (.tup [.str "not", .ref pa, .ref ca]) ∧ Shp H pa p ∧ FrA H ca (rsumO p n (runOf ps p p)) ∧ rsumO p n (runOf ps p p) < s)
noncomputable def toldT (n : Nat) (ps : List (Rat × Rat)) (r s p : Rat) : Th := if s ≤ r then sureT r else notT p (rsumO p n (runOf ps p p))
theorem dep_told (n : Nat) (ps : List (Rat × Rat)) (r s p : Rat) : depT (toldT n ps r s p) ≤ 60 := by unfold toldT; split <;> first | exact dep_sure r | exact dep_not _ _
theorem Tld.den {H : Hp} {y : Addr} {n : Nat} {ps : List (Rat × Rat)} {r s p : Rat} (h : Tld H y n ps r s p) : Den H (toldT n ps r s p) (.ref y) := by
  unfold toldT
  rcases h with ⟨c, u, e, f⟩ | ⟨c, pa, ca, e, f, g, _⟩
  · rw [if_pos c]; exact den2 e rfl (den_p f.ob)
  · rw [if_neg (by grind)]; exact den3 e rfl (den_p f.ob) (den_p g.ob)
theorem Tld.keep {H H' : Hp} {y : Addr} {n : Nat} {ps : List (Rat × Rat)} {r s p : Rat} (h : Tld H y n ps r s p) (sm : Same H H') : Tld H' y n ps r s p := by
  rcases h with ⟨c, u, e, f⟩ | ⟨c, pa, ca, e, f, g, l⟩
  · exact .inl ⟨c, u, sm _ _ e, f.keep sm⟩
  · exact .inr ⟨c, pa, ca, sm _ _ e, f.keep sm, g.keep sm, l⟩
noncomputable def spRight : Sp := fun vs H Q _ => ∃ (n : Nat) (l : Addr) (zs : List V) (ps : List (Rat × Rat)) (lo sa y : Addr) (r s p : Rat), vs = [.int n, .ref l, .ref lo, .ref sa, .ref y] ∧ H l = some (.lst zs) ∧ RowP H ps zs ∧ IsRule n ps ∧ FrA H lo r ∧ Shp H sa s ∧ Tld H y n ps r s p ∧ ∀ H', Same H H' → Q (.bl true) H'
theorem sc_right : FnScope ["_law_n", "_law_stretches_here", "_law_low", "_law_share", "_law_told"] ["_law_n", "_law_stretches_here", "_law_low", "_law_share", "_law_told"] (defScope s_right) := ⟨rfl, rfl, rfl, by decide +kernel, rfl, by decide +kernel, by decide +kernel⟩
theorem ok_right {f : Addr} {fd : FuncData} (F : Fun K "_law_right" "_law_right" s_right f fd) (T : Txt mg) {fnm : Addr} {dnm : FuncData} (Gnm : FnOk P w K mg base CX0 4 fnm dnm ["_law_one", "_law_other"] spNm) (bnm : Binds K dnm ["_law_one", "_law_other"] []) (knm : PySem.W.keepIn K (.ref fnm) = true) (mnm : mg "_law_no_more" = some (.ref fnm)) {fisf : Addr} {disf : FuncData} (Gisf : FnOk P w K mg base CX0 4 fisf disf ["_law_thing"] spIsf) (bisf : Binds K disf ["_law_thing"] []) (kisf : PySem.W.keepIn K (.ref fisf) = true) (misf : mg "_law_is_fraction" = some (.ref fisf)) {fcvr : Addr} {dcvr : FuncData} (Gcvr : FnOk P w K mg base CX0 4 fcvr dcvr ["_law_n", "_law_stretches_here", "_law_p"] spCvr) (bcvr : Binds K dcvr ["_law_n", "_law_stretches_here", "_law_p"] []) (kcvr : PySem.W.keepIn K (.ref fcvr) = true) (mcvr : mg "_law_cover" = some (.ref fcvr)) : FnOk P w K mg base CX0 5 f fd ["_law_n", "_law_stretches_here", "_law_low", "_law_share", "_law_told"] spRight := by
  refine F.ok sc_right (fun vs H Q E h => ?_) (fun cdv A outer s H vs Q E hr h => ?_)
  · obtain ⟨n, l, zs, ps, lo, sa, y, r, s, p, rfl, _⟩ := h
    rfl
  obtain ⟨n, l, zs, ps, lo, sa, y, r, sh, p, rfl, hl, row, ok, fl, fs, tt, q⟩ := h
  refine ⟨_, (pss_cons (ps_if (PW.pt (pw_or (pt_not (pt_val (pe_callB call_isinstD rfl T.isinstance boot_isinstance (pa_cons (pv 4) (pa_cons (pe_bltn (v := .ty "tuple") rfl T.tuple boot_tuple rfl) pa_nil))))) (pw_or1 (pt_not (pt_val (pe_callB call_isinstD rfl T.isinstance boot_isinstance (pa_cons (pe_ix ix_tup (pv 4) pe_int (fun _ _ => rfl)) (pa_cons (pe_bltn (v := .ty "str") rfl T.str boot_str rfl) pa_nil)))))))) (pss_one (ps_ret pe_bl)) pss_nil)
    (pss_cons (ps_if (pt_val (pe_call Gnm hr rfl mnm knm bnm .nil pass0 (pa_cons (pv 3) (pa_cons (pv 2) pa_nil)))) (pss_one (ps_ret (pe_cmpR (op_eqD hr.units) (pv 4) (pe_tup (pa_cons pe_str (pa_cons (pv 2) pa_nil))) (nomark _)))) pss_nil)
    (pss_cons (ps_if (PW.pt (pw_or (pt_cmpR op_ne (pe_callB call_len_seq rfl T.len boot_len (pa_cons (pv 4) pa_nil)) pe_int (nomark _)) (pw_or (pt_cmpR op_ne (pe_ix ix_tup (pv 4) pe_int (fun _ _ => rfl)) pe_str (nomark _)) (pw_or (pt_not (pt_val (pe_call Gisf hr rfl misf kisf bisf .nil pass0 (pa_cons (pe_ix ix_tup (pv 4) pe_int (fun _ _ => rfl)) pa_nil)))) (pw_or1 (pt_not (pt_val (pe_call Gisf hr rfl misf kisf bisf .nil pass0 (pa_cons (pe_ix ix_tup (pv 4) pe_int (fun _ _ => rfl)) pa_nil))))))))) (pss_one (ps_ret pe_bl)) pss_nil)
    (pss_cons (ps_if (PW.pt (pw_or (pt_not (pt_val (pe_call Gnm hr rfl mnm knm bnm .nil pass0 (pa_cons (pe_tup (pa_cons pe_int (pa_cons pe_int pa_nil))) (pa_cons (pe_ix ix_tup (pv 4) pe_int (fun _ _ => rfl)) pa_nil))))) (pw_or1 (pt_not (pt_val (pe_call Gnm hr rfl mnm knm bnm .nil pass0 (pa_cons (pe_ix ix_tup (pv 4) pe_int (fun _ _ => rfl)) (pa_cons (pe_tup (pa_cons pe_int (pa_cons pe_int pa_nil))) pa_nil)))))))) (pss_one (ps_ret pe_bl)) pss_nil)
    (pss_one (ps_ret (pe_and (pe_cmpR (op_eqD hr.units) (pe_ix ix_tup (pv 4) pe_int (fun _ _ => rfl)) (pe_call Gcvr hr rfl mcvr kcvr bcvr .nil pass0 (pa_cons (pv 0) (pa_cons (pv 1) (pa_cons (pe_ix ix_tup (pv 4) pe_int (fun _ _ => rfl)) pa_nil)))) (nomark _)) (pe_one (pe_not (pe_call Gnm hr rfl mnm knm bnm .nil pass0 (pa_cons (pv 3) (pa_cons (pe_ix ix_tup (pv 4) pe_int (fun _ _ => rfl)) pa_nil)))))))))))), ?_⟩
  have dd := tt.den
  rcases tt with ⟨c, u, e, f⟩ | ⟨c, pa, ca, e, f, g, lt⟩
  · refine ⟨_, rfl, .ref y, _, _, _, rfl, dd, kit_tuple _, _, rfl, ?_⟩
    unfold toldT
    rw [if_pos c]
    refine iteF ⟨_, rfl, y, _, 0, _, rfl, rfl, SqT.of e, at0, _, .str "sure", _, _, rfl, rfl, kit_str _, _, rfl, iteF ?_⟩
    refine ⟨_, rfl, _, rfl, sa, lo, _, _, rfl, fs.fq, fl.fq, _, rfl, ?_⟩
    rw [decide_eq_true c]
    refine iteT ⟨_, rfl, _, rfl, (by show 2 ≤ sizeLine; decide), fun w hw => ?_⟩
    have s1 := same_new hw (.tup [V.str "sure", V.ref lo])
    exact ⟨sureT r, (den2 (s1 _ _ e) rfl (den_p (f.keep s1).ob)), den2 upd_same rfl (den_p (fl.keep s1).ob), dep_sure r, q _ s1⟩
  · refine ⟨_, rfl, .ref y, _, _, _, rfl, dd, kit_tuple _, _, rfl, ?_⟩
    unfold toldT
    rw [if_neg (by grind)]
    refine iteF ⟨_, rfl, y, _, 0, _, rfl, rfl, SqT.of e, at0, _, .str "not", _, _, rfl, rfl, kit_str _, _, rfl, iteF ?_⟩
    refine ⟨_, rfl, _, rfl, sa, lo, _, _, rfl, fs.fq, fl.fq, _, rfl, ?_⟩
    rw [decide_eq_false (by grind)]
    refine iteF ⟨_, rfl, y, _, rfl, .inr (SqT.of e), rfl, _, rfl, iteF ?_⟩
    refine ⟨_, rfl, y, _, 0, _, rfl, rfl, SqT.of e, at0, rfl, _, rfl, iteF ?_⟩
    refine ⟨_, rfl, y, _, 1, _, rfl, rfl, SqT.of e, at1, pa, _, rfl, f.ob, _, rfl, iteF ?_⟩
    refine ⟨_, rfl, y, _, 2, _, rfl, rfl, SqT.of e, at2, ca, _, rfl, g.ob, _, rfl, iteF ?_⟩
    dsimp only
    refine ⟨(by show 2 ≤ sizeLine; decide), fun o0 h0 => ?_⟩
    have t0 := same_new h0 (.tup [V.int 0, V.int 1])
    refine ⟨_, rfl, y, _, 1, _, rfl, rfl, SqT.of (t0 _ _ e), at1, o0, pa, _, _, rfl, (shp0 upd_same).fq, (f.keep t0).fq, _, rfl, ?_⟩
    rw [decide_eq_true f.lo]
    refine iteF ⟨_, rfl, y, _, 1, _, rfl, rfl, SqT.of (t0 _ _ e), at1, (by show 2 ≤ sizeLine; decide), fun o1 h1 => ?_⟩
    have t1 := same_new h1 (.tup [V.int 1, V.int 1])
    have t01 := t0.trans t1
    refine ⟨pa, o1, _, _, rfl, (f.keep t01).fq, (shp1 upd_same).fq, _, rfl, ?_⟩
    rw [decide_eq_true f.hi]
    refine iteF ?_
    refine ⟨_, rfl, y, _, 2, _, rfl, rfl, SqT.of (t01 _ _ e), at2, _, rfl, _, rfl, _, rfl, y, _, 1, _, rfl, rfl, SqT.of (t01 _ _ e), at1, n, l, zs, ps, pa, p, rfl, t01 _ _ hl, row.keep t01, ok, (f.keep t01).pq, fun x H3 s3 hx => ?_⟩
    have t03 := t01.trans s3
    refine ⟨frT2 _, den_p (g.keep t03).ob, den_p hx, dep_fr _, _, rfl, iteT ?_⟩
    refine ⟨_, rfl, _, rfl, y, _, 2, _, rfl, rfl, SqT.of (t03 _ _ e), at2, sa, ca, _, _, rfl, (fs.keep t03).fq, (g.keep t03).fq, ?_⟩
    rw [decide_eq_false (show ¬ sh ≤ rsumO p n (runOf ps p p) by grind)]
    exact ⟨_, rfl, q _ t03⟩
theorem rim_pin {H : Hp} {ps : List (Rat × Rat)} {xs : List V} (h : RowP H ps xs) : ∀ x ∈ rimL ps, 0 ≤ x ∧ x ≤ 1 := fun x hx => by
  unfold rimL at hx
  simp only [List.mem_cons, List.mem_flatMap, List.not_mem_nil, or_false] at hx
  rcases hx with rfl | rfl | ⟨p, hp, hx⟩
  · decide +kernel
  · decide +kernel
  · obtain ⟨i, hi⟩ := List.mem_iff_getElem?.mp hp
    obtain ⟨_, _, _, _, _, f1, f2⟩ := h.get hi
    rcases hx with rfl | rfl
    · exact ⟨f1.lo, f1.hi⟩
    · exact ⟨f2.lo, f2.hi⟩
theorem rim_szM {m : Nat} (hm : 1 ≤ m) {ps : List (Rat × Rat)} (h : SmPM m ps) : ∀ x ∈ rimL ps, Sz m (x.den : Int) := fun x hx => by
  have one : Sz m (1 : Int) := Nat.one_lt_two_pow (by omega)
  unfold rimL at hx
  simp only [List.mem_cons, List.mem_flatMap, List.not_mem_nil, or_false] at hx
  rcases hx with rfl | rfl | ⟨p, hp, hx⟩
  · exact one
  · exact one
  · rcases hx with rfl | rfl
    · exact (h p hp).1
    · exact (h p hp).2
theorem best_szs {n : Nat} {ps : List (Rat × Rat)} {c : Cd} (ok : IsRule n ps) (hc : bestC n (allPc ps) = some c) (pin : ∀ x ∈ rimL ps, 0 ≤ x ∧ x ≤ 1) (sm : SmPM (szN n) ps) : 0 ≤ c.1 ∧ c.1 ≤ 1 ∧ Sz 120 (c.1.den : Int) := by
  obtain ⟨z1, z2⟩ := szN_le ok.n12
  have z0 : 1 ≤ szN n := by unfold szN; split <;> omega
  have main : ∀ a ∈ rimL ps, ∀ r, 0 ≤ rsumO a n r ∧ rsumO a n r ≤ 1 ∧ Sz 120 ((rsumO a n r).den : Int) := fun a ha r => by
    have pa := pin a ha
    have u := rsumO_unit (n := n) pa.1 pa.2 r
    have z := den_nat (rim_szM z0 sm a ha)
    have lt : a.den ^ n < 2 ^ 120 := Nat.lt_of_lt_of_le (powlt z.2 ok.n1) (Nat.pow_le_pow_right (by decide) z2)
    exact ⟨u.1, u.2, (RSz.of (rsumO_ov (Ov.self a) n r) (Nat.pow_pos z.1) lt u.1 u.2).b⟩
  obtain ⟨k, a, b, ea, eb, hcc⟩ := best_at hc
  obtain ⟨_, i2⟩ := edg_ok (rimL ps)
  have pa := main a ((i2 a).mp (List.mem_of_getElem? ea))
  have pb := main b ((i2 b).mp (List.mem_of_getElem? eb))
  rcases hcc with rfl | rfl
  · exact pa _
  · exact pb _
theorem gap_of {n : Nat} (hn : n ≤ 12) {r s : Rat} (zr : Sz 120 (r.den : Int)) (g : GoodS r s) (lt : r < s) : (n : Rat) ≤ (s - r) * (2 : Rat) ^ 255 := by
  obtain ⟨B, B0, B1, o⟩ := g
  have o2 := o.sub ((Ov.self r).up (Nat.dvd_mul_right r.den B))
  obtain ⟨m, em⟩ := o2
  obtain ⟨d0, d1⟩ := den_nat zr
  have W0 : 0 < r.den * B := Nat.mul_pos d0 B0
  have W1 : 12 * (r.den * B) ≤ 2 ^ 255 := by
    have h1 : r.den * B < 2 ^ 120 * 2 ^ 70 := Nat.mul_lt_mul'' d1 B1
    calc 12 * (r.den * B) ≤ 2 ^ 4 * (2 ^ 120 * 2 ^ 70) := Nat.mul_le_mul (by decide) (Nat.le_of_lt h1)
      _ ≤ 2 ^ 255 := by rw [← Nat.pow_add, ← Nat.pow_add]; exact Nat.pow_le_pow_right (by decide) (by decide)
  generalize r.den * B = W at *
  have Wq : (0 : Rat) < (W : Rat) := castpos W0
  have mp : (0 : Rat) < (m : Rat) := by rw [← em]; exact Rat.mul_pos (by grind) Wq
  have m1 : 1 ≤ m := by have : 0 < m := by exact_mod_cast mp
                        omega
  have mq : (1 : Rat) ≤ (m : Rat) := by exact_mod_cast m1
  have W2 : (12 : Rat) * (W : Rat) ≤ (2 : Rat) ^ 255 := by exact_mod_cast W1
  have k1 : (s - r) * ((12 : Rat) * (W : Rat)) ≤ (s - r) * (2 : Rat) ^ 255 := Rat.mul_le_mul_of_nonneg_left W2 (by grind)
  have n12 : (n : Rat) ≤ 12 := by exact_mod_cast hn
  grind
noncomputable def spLaw (K : PySem.W.Frag) : Sp := fun vs H Q _ => ∃ (a : Addr) (ns : List Int), vs = [.ref a] ∧ SqL K H a (ns.map V.int) ∧ ns.length ≤ 63 ∧ (∀ i ∈ ns, Bg i) ∧ ∀ H', Q (.bl true) H'
noncomputable def nOf (c : Int) : Int := if decide (V.int (c / 6 % 8) = V.int 5) = true then 7 + c / 48 % 6 else 1 + c % 6
theorem nOf_in (c : Int) : 1 ≤ nOf c ∧ nOf c ≤ 12 := by
  have g1 := md0 c (show (0 : Int) < 6 by decide)
  have f1 := md1 c (show (0 : Int) < 6 by decide)
  have g2 := md0 (c / 48) (show (0 : Int) < 6 by decide)
  have f2 := md1 (c / 48) (show (0 : Int) < 6 by decide)
  unfold nOf
  split <;> omega
theorem sc_law : FnScope ["_law_script", "_law_first", "_law_n", "_law_stretches_here", "_law_rule", "_law_low", "_law_share", "_law_told"] ["_law_script"] (defScope s_law) := ⟨rfl, rfl, rfl, by decide +kernel, rfl, by decide +kernel, by decide +kernel⟩
theorem ok_law {f : Addr} {fd : FuncData} (F : Fun K "law" "law" s_law f fd) (T : Txt mg) {fcell : Addr} {dcell : FuncData} (Gcell : FnOk P w K mg base CX0 9 fcell dcell ["_law_script", "_law_k"] (spCell K)) (bcell : Binds K dcell ["_law_script", "_law_k"] []) (kcell : PySem.W.keepIn K (.ref fcell) = true) (mcell : mg "_law_cell_at" = some (.ref fcell)) {fstr : Addr} {dstr : FuncData} (Gstr : FnOk P w K mg base CX0 9 fstr dstr ["_law_script", "_law_at", "_law_n"] (spStr K)) (bstr : Binds K dstr ["_law_script", "_law_at", "_law_n"] []) (kstr : PySem.W.keepIn K (.ref fstr) = true) (mstr : mg "_law_stretches" = some (.ref fstr)) {fruleof : Addr} {druleof : FuncData} (Gruleof : FnOk P w K mg base CX0 9 fruleof druleof ["n", "stretches"] spRuleOf) (bruleof : Binds K druleof ["n", "stretches"] []) (kruleof : PySem.W.keepIn K (.ref fruleof) = true) (mruleof : mg "rule_of" = some (.ref fruleof)) {fleast : Addr} {dleast : FuncData} (Gleast : FnOk P w K mg base CX0 9 fleast dleast ["rule"] spLeast) (bleast : Binds K dleast ["rule"] []) (kleast : PySem.W.keepIn K (.ref fleast) = true) (mleast : mg "least" = some (.ref fleast)) {fshs : Addr} {dshs : FuncData} (Gshs : FnOk P w K mg base CX0 9 fshs dshs ["_law_script", "_law_low"] (spShs K)) (bshs : Binds K dshs ["_law_script", "_law_low"] []) (kshs : PySem.W.keepIn K (.ref fshs) = true) (mshs : mg "_law_shares" = some (.ref fshs)) {fsure : Addr} {dsure : FuncData} (Gsure : FnOk P w K mg base CX0 9 fsure dsure ["rule", "share"] spSure) (bsure : Binds K dsure ["rule", "share"] []) (ksure : PySem.W.keepIn K (.ref fsure) = true) (msure : mg "sure" = some (.ref fsure)) {fright : Addr} {dright : FuncData} (Gright : FnOk P w K mg base CX0 9 fright dright ["_law_n", "_law_stretches_here", "_law_low", "_law_share", "_law_told"] spRight) (bright : Binds K dright ["_law_n", "_law_stretches_here", "_law_low", "_law_share", "_law_told"] []) (kright : PySem.W.keepIn K (.ref fright) = true) (mright : mg "_law_right" = some (.ref fright)) : FnOk P w K mg base CX0 10 f fd ["_law_script"] (spLaw K) := by
  refine F.ok sc_law (fun vs H Q E h => ?_) (fun cdv A outer s H vs Q E hr h => ?_)
  · obtain ⟨a, ns, rfl, _⟩ := h
    rfl
  obtain ⟨a, ns, rfl, hS, h63, hbg, q⟩ := h
  refine ⟨_, (pss_cons (ps_set (i := 1) sc_law.nd rfl (Or.inl rfl) (pe_call Gcell hr rfl mcell kcell bcell .nil pass0 (pa_cons (pv 0) (pa_cons pe_int pa_nil))))
    (pss_cons (ps_set (i := 2) sc_law.nd rfl (Or.inl rfl) (pe_op op_add pe_int (pe_op op_mod (pv 1) pe_int)))
    (pss_cons (ps_if (pt_cmpR op_eq (pe_op op_mod (pe_op op_fdiv (pv 1) pe_int) pe_int) pe_int (nomark _)) (pss_one (ps_set (i := 2) sc_law.nd rfl (Or.inl rfl) (pe_op op_add pe_int (pe_op op_mod (pe_op op_fdiv (pv 1) pe_int) pe_int)))) pss_nil)
    (pss_cons (ps_set (i := 3) sc_law.nd rfl (Or.inl rfl) (pe_call Gstr hr rfl mstr kstr bstr .nil pass0 (pa_cons (pv 0) (pa_cons pe_int (pa_cons (pv 2) pa_nil)))))
    (pss_cons (ps_set (i := 4) sc_law.nd rfl (Or.inl rfl) (pe_call Gruleof hr rfl mruleof kruleof bruleof .nil pass0 (pa_cons (pv 2) (pa_cons (pv 3) pa_nil))))
    (pss_cons (ps_set (i := 5) sc_law.nd rfl (Or.inl rfl) (pe_ix ix_tup (pe_call Gleast hr rfl mleast kleast bleast .nil pass0 (pa_cons (pv 4) pa_nil)) pe_int (fun _ _ => rfl)))
    (pss_cons (ps_for PassesOwn.never rfl (pi_list (pe_call Gshs hr rfl mshs kshs bshs .nil pass0 (pa_cons (pv 0) (pa_cons (pv 5) pa_nil)))) (pg_name (i := 6) sc_law.nd rfl (Or.inl rfl)) (pss_cons (ps_set (i := 7) sc_law.nd rfl (Or.inl rfl) (pe_call Gsure hr rfl msure ksure bsure .nil pass0 (pa_cons (pv 4) (pa_cons (pv 6) pa_nil))))
      (pss_one (ps_if (PW.pt (pw_or (pt_not (pt_val (pe_call Gright hr rfl mright kright bright .nil pass0 (pa_cons (pv 2) (pa_cons (pv 3) (pa_cons (pv 5) (pa_cons (pv 6) (pa_cons (pv 7) pa_nil)))))))) (pw_or1 (pt_cmpR (op_neD hr.units) (pe_call Gsure hr rfl msure ksure bsure .nil pass0 (pa_cons (pv 4) (pa_cons (pv 6) pa_nil))) (pv 7) (nomark _))))) (pss_one (ps_ret pe_bl)) pss_nil))))
    (pss_one (ps_ret pe_bl))))))))), ?_⟩
  refine ⟨_, rfl, a, ns, 0, rfl, hS, by omega, ?_⟩
  generalize ns.getD (0 : Int).toNat 0 = c
  refine ⟨_, rfl, _, _, rfl, rfl, (by show (0 : Int) < 6; decide), _, _, rfl, rfl, ?_⟩
  dsimp only
  refine seq_by (fun σ H' => H' = H ∧ σ = [some (.ref a), some (.int c), some (.int (nOf c)), none, none, none, none, none]) ?_ ?_
  · intro M hM
    refine ⟨_, rfl, _, _, rfl, rfl, ⟨by decide, by decide⟩, _, _, rfl, rfl, (by show (0 : Int) < 8; decide), rfl, _, rfl, ?_⟩
    refine ite2 (fun d => ?_) (fun d => ?_)
    · refine ⟨_, rfl, _, _, rfl, rfl, ⟨by decide, by decide⟩, _, _, rfl, rfl, (by show (0 : Int) < 6; decide), _, _, rfl, rfl, hM _ _ ⟨rfl, ?_⟩⟩
      unfold nOf
      rw [if_pos d] <;> rfl
    · refine hM _ _ ⟨rfl, ?_⟩
      unfold nOf
      rw [if_neg d] <;> rfl
  rintro σ H0 ⟨rfl, rfl⟩
  obtain ⟨n1, n12⟩ := nOf_in c
  obtain ⟨n, en⟩ : ∃ n : Nat, nOf c = (n : Int) := ⟨(nOf c).toNat, by omega⟩
  rw [en] at n1 n12 ⊢
  refine ⟨_, rfl, _, rfl, a, ns, 1, n, rfl, hS, by decide, by omega, by omega, fun l H1 zs ps s1 hl row ok smp => ?_⟩
  have pin := rim_pin row
  refine ⟨_, rfl, _, rfl, n, l, zs, ps, rfl, hl, row, ok, fun x H2 s2 hx => ?_⟩
  refine ⟨_, rfl, x, n, ps, rfl, hx, fun c1 y t1 a1 H3 hc s3 hy ft sa => ?_⟩
  obtain ⟨c0, c1', zc⟩ := best_szs ok hc pin smp
  have zN := szN_le ok.n12
  have z0 : 1 ≤ szN n := by unfold szN; split <;> omega
  have psz : ∀ y ∈ rimL ps, Sz 20 (y.den : Int) := fun y hy => (rim_szM z0 smp y hy).mono zN.1
  have s23 := s2.trans s3
  have s13 := s1.trans s23
  have sft : Shp H3 t1 c1.1 := ⟨ft.ob, c0, c1', zc.mono (by decide)⟩
  refine ⟨y, _, 0, _, rfl, rfl, SqT.of hy, at0, ?_⟩
  refine ⟨_, rfl, _, rfl, a, ns, t1, c1.1, rfl, s13.seq hS, sft, zc, fun lx H4 xs s4 hxs lxs al => ?_⟩
  refine ⟨lx, rfl, ⟨_, SqL.of hxs⟩, ?_⟩
  refine for_list (xs := xs) (fun i σ H' => Same H4 H' ∧ ∃ v1 v2, σ = [some (.ref a), some (.int c), some (.int n), some (.ref l), some (.ref x), some (.ref t1), v1, v2]) ⟨Same.refl H4, none, none, rfl⟩ ?_ ?_ ?_
  · rintro i σ H' hi ⟨sm, _⟩
    exact SqL.of (sm _ _ hxs)
  · rintro i z σ H5 hz ⟨sm, v1, v2, rfl⟩
    obtain ⟨f, sh, rfl, sp, gs⟩ := al z (List.mem_of_getElem? hz)
    have s25 := (s3.trans s4).trans sm
    have s35 := s4.trans sm
    have two : ∀ (G : Hp) (Q : VK), Same H5 G → (∀ y' G', Same G G' → Tld G' y' n ps c1.1 sh (lkR n ps sh c1) → Q (.ref y') G') → spSure [.ref x, .ref f] G Q E0 := fun G Q sG k =>
      ⟨x, f, n, ps, sh, c1, rfl, (hx.keep s25).keep sG, ((sp.keep sm).keep sG).fr, hc, pin, psz, gap_of ok.n12 zc gs, fun le y' u G' sm' e fr => k y' G' sm' (.inl ⟨le, u, e, fr⟩), fun lt y' pa ca G' sm' e f1 f2 f3 => k y' G' sm' (.inr ⟨lt, pa, ca, e, f1, f2, f3⟩)⟩
    refine ⟨_, rfl, _, rfl, ?_⟩
    delta tNil
    dsimp only
    show spSure ([V.ref x, V.ref f] ++ []) _ _ _
    refine two _ _ (Same.refl _) fun y1 H6 s6 told => ?_
    have s36 := s35.trans s6
    have S26 := s23.trans (s4.trans (sm.trans s6))
    refine ⟨_, rfl, _, rfl, _, rfl, _, rfl, _, rfl, n, l, zs, ps, t1, f, y1, c1.1, sh, _, rfl, S26 _ _ hl, row.keep S26, ok, ft.keep s36, (sp.keep sm).keep s6, told, fun H7 s7 => ⟨_, rfl, iteF ?_⟩⟩
    refine ⟨_, rfl, _, rfl, ?_⟩
    dsimp only
    show spSure ([V.ref x, V.ref f] ++ []) _ _ _
    refine two _ _ (s6.trans s7) fun y2 H8 s8 told2 => ?_
    exact ⟨_, rfl, _, told2.den, ((told.keep s7).keep s8).den, dep_told .., _, rfl, iteF ⟨((sm.trans s6).trans s7).trans s8, _, _, rfl⟩⟩
  · rintro σ H5 ⟨sm, v1, v2, rfl⟩
    exact q _
end
theorem all_mk {l : PySem.W.OpenLaw} {w : World} {K : PySem.W.Frag} {h : Heap} {mg : Str → Option Value} {fa f_whole f_share f_wpair f_cd f_frac f_plus f_minus f_und f_cho f_pow f_wtop f_rsum f_ruleof f_rowof f_stof f_held f_rov f_cov f_sor f_edges f_pieces f_least f_lpl f_sure f_lack f_lks f_shb f_sim f_wterm f_cell f_stream f_dv f_low f_nm f_ord f_str f_pows f_chs f_cvr f_isf f_shs f_right f_law : Addr} (X : K.In h) (G : h.Ns mainGlobals mg) (hfa : mg "law" = some (.ref fa))
    {od_whole an_whole : Option Addr} {sl_whole : Array (Option Value)} {oc_whole kV_whole dc_whole pm_whole cd_whole ct_whole : Value}
    (a_whole : PySem.W.nsIn K mainGlobals "is_whole" = some (some (.ref f_whole))) (l_whole : K.lookup f_whole = some ⟨oc_whole, od_whole, .func (PySem.W.fnOf "is_whole" "is_whole" (defArgs s_whole) (defBody s_whole) (defScope s_whole) .none kV_whole dc_whole pm_whole an_whole cd_whole ct_whole), sl_whole⟩) (c_whole : PySem.W.codeIn K cd_whole "is_whole" = true) (k_whole : PySem.W.keepIn K (.ref f_whole) = true)
    {od_share an_share : Option Addr} {sl_share : Array (Option Value)} {oc_share kV_share dc_share pm_share cd_share ct_share : Value}
    (a_share : PySem.W.nsIn K mainGlobals "is_share" = some (some (.ref f_share))) (l_share : K.lookup f_share = some ⟨oc_share, od_share, .func (PySem.W.fnOf "is_share" "is_share" (defArgs s_share) (defBody s_share) (defScope s_share) .none kV_share dc_share pm_share an_share cd_share ct_share), sl_share⟩) (c_share : PySem.W.codeIn K cd_share "is_share" = true) (k_share : PySem.W.keepIn K (.ref f_share) = true)
    {od_wpair an_wpair : Option Addr} {sl_wpair : Array (Option Value)} {oc_wpair kV_wpair dc_wpair pm_wpair cd_wpair ct_wpair : Value}
    (a_wpair : PySem.W.nsIn K mainGlobals "is_whole_pair" = some (some (.ref f_wpair))) (l_wpair : K.lookup f_wpair = some ⟨oc_wpair, od_wpair, .func (PySem.W.fnOf "is_whole_pair" "is_whole_pair" (defArgs s_wpair) (defBody s_wpair) (defScope s_wpair) .none kV_wpair dc_wpair pm_wpair an_wpair cd_wpair ct_wpair), sl_wpair⟩) (c_wpair : PySem.W.codeIn K cd_wpair "is_whole_pair" = true) (k_wpair : PySem.W.keepIn K (.ref f_wpair) = true)
    {od_cd an_cd : Option Addr} {sl_cd : Array (Option Value)} {oc_cd kV_cd dc_cd pm_cd cd_cd ct_cd : Value}
    (a_cd : PySem.W.nsIn K mainGlobals "common_divisor" = some (some (.ref f_cd))) (l_cd : K.lookup f_cd = some ⟨oc_cd, od_cd, .func (PySem.W.fnOf "common_divisor" "common_divisor" (defArgs s_cd) (defBody s_cd) (defScope s_cd) .none kV_cd dc_cd pm_cd an_cd cd_cd ct_cd), sl_cd⟩) (c_cd : PySem.W.codeIn K cd_cd "common_divisor" = true) (k_cd : PySem.W.keepIn K (.ref f_cd) = true)
    {od_frac an_frac : Option Addr} {sl_frac : Array (Option Value)} {oc_frac kV_frac dc_frac pm_frac cd_frac ct_frac : Value}
    (a_frac : PySem.W.nsIn K mainGlobals "fraction" = some (some (.ref f_frac))) (l_frac : K.lookup f_frac = some ⟨oc_frac, od_frac, .func (PySem.W.fnOf "fraction" "fraction" (defArgs s_frac) (defBody s_frac) (defScope s_frac) .none kV_frac dc_frac pm_frac an_frac cd_frac ct_frac), sl_frac⟩) (c_frac : PySem.W.codeIn K cd_frac "fraction" = true) (k_frac : PySem.W.keepIn K (.ref f_frac) = true)
    {od_plus an_plus : Option Addr} {sl_plus : Array (Option Value)} {oc_plus kV_plus dc_plus pm_plus cd_plus ct_plus : Value}
    (a_plus : PySem.W.nsIn K mainGlobals "plus" = some (some (.ref f_plus))) (l_plus : K.lookup f_plus = some ⟨oc_plus, od_plus, .func (PySem.W.fnOf "plus" "plus" (defArgs s_plus) (defBody s_plus) (defScope s_plus) .none kV_plus dc_plus pm_plus an_plus cd_plus ct_plus), sl_plus⟩) (c_plus : PySem.W.codeIn K cd_plus "plus" = true) (k_plus : PySem.W.keepIn K (.ref f_plus) = true)
    {od_minus an_minus : Option Addr} {sl_minus : Array (Option Value)} {oc_minus kV_minus dc_minus pm_minus cd_minus ct_minus : Value}
    (a_minus : PySem.W.nsIn K mainGlobals "minus" = some (some (.ref f_minus))) (l_minus : K.lookup f_minus = some ⟨oc_minus, od_minus, .func (PySem.W.fnOf "minus" "minus" (defArgs s_minus) (defBody s_minus) (defScope s_minus) .none kV_minus dc_minus pm_minus an_minus cd_minus ct_minus), sl_minus⟩) (c_minus : PySem.W.codeIn K cd_minus "minus" = true) (k_minus : PySem.W.keepIn K (.ref f_minus) = true)
    {od_und an_und : Option Addr} {sl_und : Array (Option Value)} {oc_und kV_und dc_und pm_und cd_und ct_und : Value}
    (a_und : PySem.W.nsIn K mainGlobals "under" = some (some (.ref f_und))) (l_und : K.lookup f_und = some ⟨oc_und, od_und, .func (PySem.W.fnOf "under" "under" (defArgs s_und) (defBody s_und) (defScope s_und) .none kV_und dc_und pm_und an_und cd_und ct_und), sl_und⟩) (c_und : PySem.W.codeIn K cd_und "under" = true) (k_und : PySem.W.keepIn K (.ref f_und) = true)
    {od_cho an_cho : Option Addr} {sl_cho : Array (Option Value)} {oc_cho kV_cho dc_cho pm_cho cd_cho ct_cho : Value}
    (a_cho : PySem.W.nsIn K mainGlobals "choices" = some (some (.ref f_cho))) (l_cho : K.lookup f_cho = some ⟨oc_cho, od_cho, .func (PySem.W.fnOf "choices" "choices" (defArgs s_cho) (defBody s_cho) (defScope s_cho) .none kV_cho dc_cho pm_cho an_cho cd_cho ct_cho), sl_cho⟩) (c_cho : PySem.W.codeIn K cd_cho "choices" = true) (k_cho : PySem.W.keepIn K (.ref f_cho) = true)
    {od_pow an_pow : Option Addr} {sl_pow : Array (Option Value)} {oc_pow kV_pow dc_pow pm_pow cd_pow ct_pow : Value}
    (a_pow : PySem.W.nsIn K mainGlobals "power" = some (some (.ref f_pow))) (l_pow : K.lookup f_pow = some ⟨oc_pow, od_pow, .func (PySem.W.fnOf "power" "power" (defArgs s_pow) (defBody s_pow) (defScope s_pow) .none kV_pow dc_pow pm_pow an_pow cd_pow ct_pow), sl_pow⟩) (c_pow : PySem.W.codeIn K cd_pow "power" = true) (k_pow : PySem.W.keepIn K (.ref f_pow) = true)
    {od_wtop an_wtop : Option Addr} {sl_wtop : Array (Option Value)} {oc_wtop kV_wtop dc_wtop pm_wtop cd_wtop ct_wtop : Value}
    (a_wtop : PySem.W.nsIn K mainGlobals "weight_top" = some (some (.ref f_wtop))) (l_wtop : K.lookup f_wtop = some ⟨oc_wtop, od_wtop, .func (PySem.W.fnOf "weight_top" "weight_top" (defArgs s_wtop) (defBody s_wtop) (defScope s_wtop) .none kV_wtop dc_wtop pm_wtop an_wtop cd_wtop ct_wtop), sl_wtop⟩) (c_wtop : PySem.W.codeIn K cd_wtop "weight_top" = true) (k_wtop : PySem.W.keepIn K (.ref f_wtop) = true)
    {od_rsum an_rsum : Option Addr} {sl_rsum : Array (Option Value)} {oc_rsum kV_rsum dc_rsum pm_rsum cd_rsum ct_rsum : Value}
    (a_rsum : PySem.W.nsIn K mainGlobals "run_sum" = some (some (.ref f_rsum))) (l_rsum : K.lookup f_rsum = some ⟨oc_rsum, od_rsum, .func (PySem.W.fnOf "run_sum" "run_sum" (defArgs s_rsum) (defBody s_rsum) (defScope s_rsum) .none kV_rsum dc_rsum pm_rsum an_rsum cd_rsum ct_rsum), sl_rsum⟩) (c_rsum : PySem.W.codeIn K cd_rsum "run_sum" = true) (k_rsum : PySem.W.keepIn K (.ref f_rsum) = true)
    {od_ruleof an_ruleof : Option Addr} {sl_ruleof : Array (Option Value)} {oc_ruleof kV_ruleof dc_ruleof pm_ruleof cd_ruleof ct_ruleof : Value}
    (a_ruleof : PySem.W.nsIn K mainGlobals "rule_of" = some (some (.ref f_ruleof))) (l_ruleof : K.lookup f_ruleof = some ⟨oc_ruleof, od_ruleof, .func (PySem.W.fnOf "rule_of" "rule_of" (defArgs s_ruleof) (defBody s_ruleof) (defScope s_ruleof) .none kV_ruleof dc_ruleof pm_ruleof an_ruleof cd_ruleof ct_ruleof), sl_ruleof⟩) (c_ruleof : PySem.W.codeIn K cd_ruleof "rule_of" = true) (k_ruleof : PySem.W.keepIn K (.ref f_ruleof) = true)
    {od_rowof an_rowof : Option Addr} {sl_rowof : Array (Option Value)} {oc_rowof kV_rowof dc_rowof pm_rowof cd_rowof ct_rowof : Value}
    (a_rowof : PySem.W.nsIn K mainGlobals "is_row_of" = some (some (.ref f_rowof))) (l_rowof : K.lookup f_rowof = some ⟨oc_rowof, od_rowof, .func (PySem.W.fnOf "is_row_of" "is_row_of" (defArgs s_rowof) (defBody s_rowof) (defScope s_rowof) .none kV_rowof dc_rowof pm_rowof an_rowof cd_rowof ct_rowof), sl_rowof⟩) (c_rowof : PySem.W.codeIn K cd_rowof "is_row_of" = true) (k_rowof : PySem.W.keepIn K (.ref f_rowof) = true)
    {od_stof an_stof : Option Addr} {sl_stof : Array (Option Value)} {oc_stof kV_stof dc_stof pm_stof cd_stof ct_stof : Value}
    (a_stof : PySem.W.nsIn K mainGlobals "stretch_of" = some (some (.ref f_stof))) (l_stof : K.lookup f_stof = some ⟨oc_stof, od_stof, .func (PySem.W.fnOf "stretch_of" "stretch_of" (defArgs s_stof) (defBody s_stof) (defScope s_stof) .none kV_stof dc_stof pm_stof an_stof cd_stof ct_stof), sl_stof⟩) (c_stof : PySem.W.codeIn K cd_stof "stretch_of" = true) (k_stof : PySem.W.keepIn K (.ref f_stof) = true)
    {od_held an_held : Option Addr} {sl_held : Array (Option Value)} {oc_held kV_held dc_held pm_held cd_held ct_held : Value}
    (a_held : PySem.W.nsIn K mainGlobals "held" = some (some (.ref f_held))) (l_held : K.lookup f_held = some ⟨oc_held, od_held, .func (PySem.W.fnOf "held" "held" (defArgs s_held) (defBody s_held) (defScope s_held) .none kV_held dc_held pm_held an_held cd_held ct_held), sl_held⟩) (c_held : PySem.W.codeIn K cd_held "held" = true) (k_held : PySem.W.keepIn K (.ref f_held) = true)
    {od_rov an_rov : Option Addr} {sl_rov : Array (Option Value)} {oc_rov kV_rov dc_rov pm_rov cd_rov ct_rov : Value}
    (a_rov : PySem.W.nsIn K mainGlobals "run_over" = some (some (.ref f_rov))) (l_rov : K.lookup f_rov = some ⟨oc_rov, od_rov, .func (PySem.W.fnOf "run_over" "run_over" (defArgs s_rov) (defBody s_rov) (defScope s_rov) .none kV_rov dc_rov pm_rov an_rov cd_rov ct_rov), sl_rov⟩) (c_rov : PySem.W.codeIn K cd_rov "run_over" = true) (k_rov : PySem.W.keepIn K (.ref f_rov) = true)
    {od_cov an_cov : Option Addr} {sl_cov : Array (Option Value)} {oc_cov kV_cov dc_cov pm_cov cd_cov ct_cov : Value}
    (a_cov : PySem.W.nsIn K mainGlobals "cover" = some (some (.ref f_cov))) (l_cov : K.lookup f_cov = some ⟨oc_cov, od_cov, .func (PySem.W.fnOf "cover" "cover" (defArgs s_cov) (defBody s_cov) (defScope s_cov) .none kV_cov dc_cov pm_cov an_cov cd_cov ct_cov), sl_cov⟩) (c_cov : PySem.W.codeIn K cd_cov "cover" = true) (k_cov : PySem.W.keepIn K (.ref f_cov) = true)
    {od_sor an_sor : Option Addr} {sl_sor : Array (Option Value)} {oc_sor kV_sor dc_sor pm_sor cd_sor ct_sor : Value}
    (a_sor : PySem.W.nsIn K mainGlobals "sum_of_run" = some (some (.ref f_sor))) (l_sor : K.lookup f_sor = some ⟨oc_sor, od_sor, .func (PySem.W.fnOf "sum_of_run" "sum_of_run" (defArgs s_sor) (defBody s_sor) (defScope s_sor) .none kV_sor dc_sor pm_sor an_sor cd_sor ct_sor), sl_sor⟩) (c_sor : PySem.W.codeIn K cd_sor "sum_of_run" = true) (k_sor : PySem.W.keepIn K (.ref f_sor) = true)
    {od_edges an_edges : Option Addr} {sl_edges : Array (Option Value)} {oc_edges kV_edges dc_edges pm_edges cd_edges ct_edges : Value}
    (a_edges : PySem.W.nsIn K mainGlobals "edges" = some (some (.ref f_edges))) (l_edges : K.lookup f_edges = some ⟨oc_edges, od_edges, .func (PySem.W.fnOf "edges" "edges" (defArgs s_edges) (defBody s_edges) (defScope s_edges) .none kV_edges dc_edges pm_edges an_edges cd_edges ct_edges), sl_edges⟩) (c_edges : PySem.W.codeIn K cd_edges "edges" = true) (k_edges : PySem.W.keepIn K (.ref f_edges) = true)
    {od_pieces an_pieces : Option Addr} {sl_pieces : Array (Option Value)} {oc_pieces kV_pieces dc_pieces pm_pieces cd_pieces ct_pieces : Value}
    (a_pieces : PySem.W.nsIn K mainGlobals "pieces" = some (some (.ref f_pieces))) (l_pieces : K.lookup f_pieces = some ⟨oc_pieces, od_pieces, .func (PySem.W.fnOf "pieces" "pieces" (defArgs s_pieces) (defBody s_pieces) (defScope s_pieces) .none kV_pieces dc_pieces pm_pieces an_pieces cd_pieces ct_pieces), sl_pieces⟩) (c_pieces : PySem.W.codeIn K cd_pieces "pieces" = true) (k_pieces : PySem.W.keepIn K (.ref f_pieces) = true)
    {od_least an_least : Option Addr} {sl_least : Array (Option Value)} {oc_least kV_least dc_least pm_least cd_least ct_least : Value}
    (a_least : PySem.W.nsIn K mainGlobals "least" = some (some (.ref f_least))) (l_least : K.lookup f_least = some ⟨oc_least, od_least, .func (PySem.W.fnOf "least" "least" (defArgs s_least) (defBody s_least) (defScope s_least) .none kV_least dc_least pm_least an_least cd_least ct_least), sl_least⟩) (c_least : PySem.W.codeIn K cd_least "least" = true) (k_least : PySem.W.keepIn K (.ref f_least) = true)
    {od_lpl an_lpl : Option Addr} {sl_lpl : Array (Option Value)} {oc_lpl kV_lpl dc_lpl pm_lpl cd_lpl ct_lpl : Value}
    (a_lpl : PySem.W.nsIn K mainGlobals "least_place" = some (some (.ref f_lpl))) (l_lpl : K.lookup f_lpl = some ⟨oc_lpl, od_lpl, .func (PySem.W.fnOf "least_place" "least_place" (defArgs s_lpl) (defBody s_lpl) (defScope s_lpl) .none kV_lpl dc_lpl pm_lpl an_lpl cd_lpl ct_lpl), sl_lpl⟩) (c_lpl : PySem.W.codeIn K cd_lpl "least_place" = true) (k_lpl : PySem.W.keepIn K (.ref f_lpl) = true)
    {od_sure an_sure : Option Addr} {sl_sure : Array (Option Value)} {oc_sure kV_sure dc_sure pm_sure cd_sure ct_sure : Value}
    (a_sure : PySem.W.nsIn K mainGlobals "sure" = some (some (.ref f_sure))) (l_sure : K.lookup f_sure = some ⟨oc_sure, od_sure, .func (PySem.W.fnOf "sure" "sure" (defArgs s_sure) (defBody s_sure) (defScope s_sure) .none kV_sure dc_sure pm_sure an_sure cd_sure ct_sure), sl_sure⟩) (c_sure : PySem.W.codeIn K cd_sure "sure" = true) (k_sure : PySem.W.keepIn K (.ref f_sure) = true)
    {od_lack an_lack : Option Addr} {sl_lack : Array (Option Value)} {oc_lack kV_lack dc_lack pm_lack cd_lack ct_lack : Value}
    (a_lack : PySem.W.nsIn K mainGlobals "share_lacking" = some (some (.ref f_lack))) (l_lack : K.lookup f_lack = some ⟨oc_lack, od_lack, .func (PySem.W.fnOf "share_lacking" "share_lacking" (defArgs s_lack) (defBody s_lack) (defScope s_lack) .none kV_lack dc_lack pm_lack an_lack cd_lack ct_lack), sl_lack⟩) (c_lack : PySem.W.codeIn K cd_lack "share_lacking" = true) (k_lack : PySem.W.keepIn K (.ref f_lack) = true)
    {od_lks an_lks : Option Addr} {sl_lks : Array (Option Value)} {oc_lks kV_lks dc_lks pm_lks cd_lks ct_lks : Value}
    (a_lks : PySem.W.nsIn K mainGlobals "lacks" = some (some (.ref f_lks))) (l_lks : K.lookup f_lks = some ⟨oc_lks, od_lks, .func (PySem.W.fnOf "lacks" "lacks" (defArgs s_lks) (defBody s_lks) (defScope s_lks) .none kV_lks dc_lks pm_lks an_lks cd_lks ct_lks), sl_lks⟩) (c_lks : PySem.W.codeIn K cd_lks "lacks" = true) (k_lks : PySem.W.keepIn K (.ref f_lks) = true)
    {od_shb an_shb : Option Addr} {sl_shb : Array (Option Value)} {oc_shb kV_shb dc_shb pm_shb cd_shb ct_shb : Value}
    (a_shb : PySem.W.nsIn K mainGlobals "share_beside" = some (some (.ref f_shb))) (l_shb : K.lookup f_shb = some ⟨oc_shb, od_shb, .func (PySem.W.fnOf "share_beside" "share_beside" (defArgs s_shb) (defBody s_shb) (defScope s_shb) .none kV_shb dc_shb pm_shb an_shb cd_shb ct_shb), sl_shb⟩) (c_shb : PySem.W.codeIn K cd_shb "share_beside" = true) (k_shb : PySem.W.keepIn K (.ref f_shb) = true)
    {od_sim an_sim : Option Addr} {sl_sim : Array (Option Value)} {oc_sim kV_sim dc_sim pm_sim cd_sim ct_sim : Value}
    (a_sim : PySem.W.nsIn K mainGlobals "simplest_between" = some (some (.ref f_sim))) (l_sim : K.lookup f_sim = some ⟨oc_sim, od_sim, .func (PySem.W.fnOf "simplest_between" "simplest_between" (defArgs s_sim) (defBody s_sim) (defScope s_sim) .none kV_sim dc_sim pm_sim an_sim cd_sim ct_sim), sl_sim⟩) (c_sim : PySem.W.codeIn K cd_sim "simplest_between" = true) (k_sim : PySem.W.keepIn K (.ref f_sim) = true)
    {od_wterm an_wterm : Option Addr} {sl_wterm : Array (Option Value)} {oc_wterm kV_wterm dc_wterm pm_wterm cd_wterm ct_wterm : Value}
    (a_wterm : PySem.W.nsIn K mainGlobals "with_term" = some (some (.ref f_wterm))) (l_wterm : K.lookup f_wterm = some ⟨oc_wterm, od_wterm, .func (PySem.W.fnOf "with_term" "with_term" (defArgs s_wterm) (defBody s_wterm) (defScope s_wterm) .none kV_wterm dc_wterm pm_wterm an_wterm cd_wterm ct_wterm), sl_wterm⟩) (c_wterm : PySem.W.codeIn K cd_wterm "with_term" = true) (k_wterm : PySem.W.keepIn K (.ref f_wterm) = true)
    {od_cell an_cell : Option Addr} {sl_cell : Array (Option Value)} {oc_cell kV_cell dc_cell pm_cell cd_cell ct_cell : Value}
    (a_cell : PySem.W.nsIn K mainGlobals "_law_cell_at" = some (some (.ref f_cell))) (l_cell : K.lookup f_cell = some ⟨oc_cell, od_cell, .func (PySem.W.fnOf "_law_cell_at" "_law_cell_at" (defArgs s_cell) (defBody s_cell) (defScope s_cell) .none kV_cell dc_cell pm_cell an_cell cd_cell ct_cell), sl_cell⟩) (c_cell : PySem.W.codeIn K cd_cell "_law_cell_at" = true) (k_cell : PySem.W.keepIn K (.ref f_cell) = true)
    {od_stream an_stream : Option Addr} {sl_stream : Array (Option Value)} {oc_stream kV_stream dc_stream pm_stream cd_stream ct_stream : Value}
    (a_stream : PySem.W.nsIn K mainGlobals "_law_stream" = some (some (.ref f_stream))) (l_stream : K.lookup f_stream = some ⟨oc_stream, od_stream, .func (PySem.W.fnOf "_law_stream" "_law_stream" (defArgs s_stream) (defBody s_stream) (defScope s_stream) .none kV_stream dc_stream pm_stream an_stream cd_stream ct_stream), sl_stream⟩) (c_stream : PySem.W.codeIn K cd_stream "_law_stream" = true) (k_stream : PySem.W.keepIn K (.ref f_stream) = true)
    {od_dv an_dv : Option Addr} {sl_dv : Array (Option Value)} {oc_dv kV_dv dc_dv pm_dv cd_dv ct_dv : Value}
    (a_dv : PySem.W.nsIn K mainGlobals "_law_divisor" = some (some (.ref f_dv))) (l_dv : K.lookup f_dv = some ⟨oc_dv, od_dv, .func (PySem.W.fnOf "_law_divisor" "_law_divisor" (defArgs s_dv) (defBody s_dv) (defScope s_dv) .none kV_dv dc_dv pm_dv an_dv cd_dv ct_dv), sl_dv⟩) (c_dv : PySem.W.codeIn K cd_dv "_law_divisor" = true) (k_dv : PySem.W.keepIn K (.ref f_dv) = true)
    {od_low an_low : Option Addr} {sl_low : Array (Option Value)} {oc_low kV_low dc_low pm_low cd_low ct_low : Value}
    (a_low : PySem.W.nsIn K mainGlobals "_law_lowest" = some (some (.ref f_low))) (l_low : K.lookup f_low = some ⟨oc_low, od_low, .func (PySem.W.fnOf "_law_lowest" "_law_lowest" (defArgs s_low) (defBody s_low) (defScope s_low) .none kV_low dc_low pm_low an_low cd_low ct_low), sl_low⟩) (c_low : PySem.W.codeIn K cd_low "_law_lowest" = true) (k_low : PySem.W.keepIn K (.ref f_low) = true)
    {od_nm an_nm : Option Addr} {sl_nm : Array (Option Value)} {oc_nm kV_nm dc_nm pm_nm cd_nm ct_nm : Value}
    (a_nm : PySem.W.nsIn K mainGlobals "_law_no_more" = some (some (.ref f_nm))) (l_nm : K.lookup f_nm = some ⟨oc_nm, od_nm, .func (PySem.W.fnOf "_law_no_more" "_law_no_more" (defArgs s_nm) (defBody s_nm) (defScope s_nm) .none kV_nm dc_nm pm_nm an_nm cd_nm ct_nm), sl_nm⟩) (c_nm : PySem.W.codeIn K cd_nm "_law_no_more" = true) (k_nm : PySem.W.keepIn K (.ref f_nm) = true)
    {od_ord an_ord : Option Addr} {sl_ord : Array (Option Value)} {oc_ord kV_ord dc_ord pm_ord cd_ord ct_ord : Value}
    (a_ord : PySem.W.nsIn K mainGlobals "_law_in_order" = some (some (.ref f_ord))) (l_ord : K.lookup f_ord = some ⟨oc_ord, od_ord, .func (PySem.W.fnOf "_law_in_order" "_law_in_order" (defArgs s_ord) (defBody s_ord) (defScope s_ord) .none kV_ord dc_ord pm_ord an_ord cd_ord ct_ord), sl_ord⟩) (c_ord : PySem.W.codeIn K cd_ord "_law_in_order" = true) (k_ord : PySem.W.keepIn K (.ref f_ord) = true)
    {od_str an_str : Option Addr} {sl_str : Array (Option Value)} {oc_str kV_str dc_str pm_str cd_str ct_str : Value}
    (a_str : PySem.W.nsIn K mainGlobals "_law_stretches" = some (some (.ref f_str))) (l_str : K.lookup f_str = some ⟨oc_str, od_str, .func (PySem.W.fnOf "_law_stretches" "_law_stretches" (defArgs s_str) (defBody s_str) (defScope s_str) .none kV_str dc_str pm_str an_str cd_str ct_str), sl_str⟩) (c_str : PySem.W.codeIn K cd_str "_law_stretches" = true) (k_str : PySem.W.keepIn K (.ref f_str) = true)
    {od_pows an_pows : Option Addr} {sl_pows : Array (Option Value)} {oc_pows kV_pows dc_pows pm_pows cd_pows ct_pows : Value}
    (a_pows : PySem.W.nsIn K mainGlobals "_law_powers" = some (some (.ref f_pows))) (l_pows : K.lookup f_pows = some ⟨oc_pows, od_pows, .func (PySem.W.fnOf "_law_powers" "_law_powers" (defArgs s_pows) (defBody s_pows) (defScope s_pows) .none kV_pows dc_pows pm_pows an_pows cd_pows ct_pows), sl_pows⟩) (c_pows : PySem.W.codeIn K cd_pows "_law_powers" = true) (k_pows : PySem.W.keepIn K (.ref f_pows) = true)
    {od_chs an_chs : Option Addr} {sl_chs : Array (Option Value)} {oc_chs kV_chs dc_chs pm_chs cd_chs ct_chs : Value}
    (a_chs : PySem.W.nsIn K mainGlobals "_law_choices" = some (some (.ref f_chs))) (l_chs : K.lookup f_chs = some ⟨oc_chs, od_chs, .func (PySem.W.fnOf "_law_choices" "_law_choices" (defArgs s_chs) (defBody s_chs) (defScope s_chs) .none kV_chs dc_chs pm_chs an_chs cd_chs ct_chs), sl_chs⟩) (c_chs : PySem.W.codeIn K cd_chs "_law_choices" = true) (k_chs : PySem.W.keepIn K (.ref f_chs) = true)
    {od_cvr an_cvr : Option Addr} {sl_cvr : Array (Option Value)} {oc_cvr kV_cvr dc_cvr pm_cvr cd_cvr ct_cvr : Value}
    (a_cvr : PySem.W.nsIn K mainGlobals "_law_cover" = some (some (.ref f_cvr))) (l_cvr : K.lookup f_cvr = some ⟨oc_cvr, od_cvr, .func (PySem.W.fnOf "_law_cover" "_law_cover" (defArgs s_cvr) (defBody s_cvr) (defScope s_cvr) .none kV_cvr dc_cvr pm_cvr an_cvr cd_cvr ct_cvr), sl_cvr⟩) (c_cvr : PySem.W.codeIn K cd_cvr "_law_cover" = true) (k_cvr : PySem.W.keepIn K (.ref f_cvr) = true)
    {od_isf an_isf : Option Addr} {sl_isf : Array (Option Value)} {oc_isf kV_isf dc_isf pm_isf cd_isf ct_isf : Value}
    (a_isf : PySem.W.nsIn K mainGlobals "_law_is_fraction" = some (some (.ref f_isf))) (l_isf : K.lookup f_isf = some ⟨oc_isf, od_isf, .func (PySem.W.fnOf "_law_is_fraction" "_law_is_fraction" (defArgs s_isf) (defBody s_isf) (defScope s_isf) .none kV_isf dc_isf pm_isf an_isf cd_isf ct_isf), sl_isf⟩) (c_isf : PySem.W.codeIn K cd_isf "_law_is_fraction" = true) (k_isf : PySem.W.keepIn K (.ref f_isf) = true)
    {od_shs an_shs : Option Addr} {sl_shs : Array (Option Value)} {oc_shs kV_shs dc_shs pm_shs cd_shs ct_shs : Value}
    (a_shs : PySem.W.nsIn K mainGlobals "_law_shares" = some (some (.ref f_shs))) (l_shs : K.lookup f_shs = some ⟨oc_shs, od_shs, .func (PySem.W.fnOf "_law_shares" "_law_shares" (defArgs s_shs) (defBody s_shs) (defScope s_shs) .none kV_shs dc_shs pm_shs an_shs cd_shs ct_shs), sl_shs⟩) (c_shs : PySem.W.codeIn K cd_shs "_law_shares" = true) (k_shs : PySem.W.keepIn K (.ref f_shs) = true)
    {od_right an_right : Option Addr} {sl_right : Array (Option Value)} {oc_right kV_right dc_right pm_right cd_right ct_right : Value}
    (a_right : PySem.W.nsIn K mainGlobals "_law_right" = some (some (.ref f_right))) (l_right : K.lookup f_right = some ⟨oc_right, od_right, .func (PySem.W.fnOf "_law_right" "_law_right" (defArgs s_right) (defBody s_right) (defScope s_right) .none kV_right dc_right pm_right an_right cd_right ct_right), sl_right⟩) (c_right : PySem.W.codeIn K cd_right "_law_right" = true) (k_right : PySem.W.keepIn K (.ref f_right) = true)
    {od_law an_law : Option Addr} {sl_law : Array (Option Value)} {oc_law kV_law dc_law pm_law cd_law ct_law : Value}
    (a_law : PySem.W.nsIn K mainGlobals "law" = some (some (.ref f_law))) (l_law : K.lookup f_law = some ⟨oc_law, od_law, .func (PySem.W.fnOf "law" "law" (defArgs s_law) (defBody s_law) (defScope s_law) .none kV_law dc_law pm_law an_law cd_law ct_law), sl_law⟩) (c_law : PySem.W.codeIn K cd_law "law" = true) (k_law : PySem.W.keepIn K (.ref f_law) = true)
    (z_range : PySem.W.nsIn K mainGlobals "range" = some none) (z_min : PySem.W.nsIn K mainGlobals "min" = some none) (z_max : PySem.W.nsIn K mainGlobals "max" = some none) (z_len : PySem.W.nsIn K mainGlobals "len" = some none) (z_isinstance : PySem.W.nsIn K mainGlobals "isinstance" = some none) (z_int : PySem.W.nsIn K mainGlobals "int" = some none) (z_bool : PySem.W.nsIn K mainGlobals "bool" = some none) (z_tuple : PySem.W.nsIn K mainGlobals "tuple" = some none) (z_abs : PySem.W.nsIn K mainGlobals "abs" = some none) (z_all : PySem.W.nsIn K mainGlobals "all" = some none) (z_zip : PySem.W.nsIn K mainGlobals "zip" = some none) (z_sum : PySem.W.nsIn K mainGlobals "sum" = some none) (z_list : PySem.W.nsIn K mainGlobals "list" = some none) (z_str : PySem.W.nsIn K mainGlobals "str" = some none)
    {d_StretchError d_NoNumber : Addr}
    (n_StretchError : PySem.W.nsIn K mainGlobals "StretchError" = some (some (.ref d_StretchError)))
    (n_NoNumber : PySem.W.nsIn K mainGlobals "NoNumber" = some (some (.ref d_NoNumber)))
    (x_NoNumber : PySem.W.excIn K d_NoNumber vbm "ValueError.__new__" = true)
    (ic_NoNumber : PySem.W.isClsIn K d_NoNumber = true)
    (ga_NoNumber : PySem.W.findIn K (.ref d_NoNumber) "__getattribute__" = some (some (.builtin "BaseException.__getattribute__")))
    (gt_NoNumber : PySem.W.findIn K (.ref d_NoNumber) "__getattr__" = some none)
    (cl_NoNumber : PySem.W.findIn K (.ref d_NoNumber) "__class__" = some (some (.builtin "object.__class__")))
    (sg_NoNumber : PySem.W.specialIn K (.builtin "object.__class__") "__get__" = some (some (.builtin "getset_descriptor.__get__")))
    (tk_NoNumber : PySem.W.takesIn K (.builtin "object.__class__") = some true)
    (ob_NoNumber : PySem.W.mroIn K d_NoNumber (.type "object") = some true)
    (be_NoNumber : PySem.W.mroIn K d_NoNumber (.type "BaseException") = some true) :
    ∃ fd : FuncData, (∀ (s : Shared) (v : Value), BindsTo s fd ⟨[v], []⟩ [("_law_script", v)]) ∧ ∀ base : Heap, K.In base → base.Ns mainGlobals mg → FnOk l.prog w K mg base CX0 10 fa fd ["_law_script"] (spLaw K) := by
  have e := hfa.symm.trans (PySem.W.mg_of X G a_law)
  cases e
  have T : Txt mg := ⟨PySem.W.mg_none_of X G z_range, PySem.W.mg_none_of X G z_min, PySem.W.mg_none_of X G z_max, PySem.W.mg_none_of X G z_len, PySem.W.mg_none_of X G z_isinstance, PySem.W.mg_none_of X G z_int, PySem.W.mg_none_of X G z_bool, PySem.W.mg_none_of X G z_tuple, PySem.W.mg_none_of X G z_abs, PySem.W.mg_none_of X G z_all, PySem.W.mg_none_of X G z_zip, PySem.W.mg_none_of X G z_sum, PySem.W.mg_none_of X G z_list, PySem.W.mg_none_of X G z_str⟩
  have cf : CF K mg ⟨d_StretchError, d_NoNumber⟩ := ⟨PySem.W.mg_of X G n_StretchError, PySem.W.mg_of X G n_NoNumber, ⟨PySem.W.mg_of X G n_NoNumber, x_NoNumber⟩, ⟨ga_NoNumber, gt_NoNumber, cl_NoNumber, sg_NoNumber, tk_NoNumber, ob_NoNumber, be_NoNumber, ic_NoNumber⟩⟩
  have F_whole := fun_mk (st := s_whole) l_whole c_whole k_whole
  have b_whole := F_whole.binds (ps := ["thing"]) fun _ _ _ _ _ _ us hl => match us, hl with | [_], _ => rfl
  have m_whole := PySem.W.mg_of X G a_whole
  have F_share := fun_mk (st := s_share) l_share c_share k_share
  have b_share := F_share.binds (ps := ["thing"]) fun _ _ _ _ _ _ us hl => match us, hl with | [_], _ => rfl
  have m_share := PySem.W.mg_of X G a_share
  have F_wpair := fun_mk (st := s_wpair) l_wpair c_wpair k_wpair
  have b_wpair := F_wpair.binds (ps := ["thing"]) fun _ _ _ _ _ _ us hl => match us, hl with | [_], _ => rfl
  have m_wpair := PySem.W.mg_of X G a_wpair
  have F_cd := fun_mk (st := s_cd) l_cd c_cd k_cd
  have b_cd := F_cd.binds (ps := ["one", "other"]) fun _ _ _ _ _ _ us hl => match us, hl with | [_, _], _ => rfl
  have m_cd := PySem.W.mg_of X G a_cd
  have F_frac := fun_mk (st := s_frac) l_frac c_frac k_frac
  have b_frac := F_frac.binds (ps := ["top", "bottom"]) fun _ _ _ _ _ _ us hl => match us, hl with | [_, _], _ => rfl
  have m_frac := PySem.W.mg_of X G a_frac
  have F_plus := fun_mk (st := s_plus) l_plus c_plus k_plus
  have b_plus := F_plus.binds (ps := ["one", "other"]) fun _ _ _ _ _ _ us hl => match us, hl with | [_, _], _ => rfl
  have m_plus := PySem.W.mg_of X G a_plus
  have F_minus := fun_mk (st := s_minus) l_minus c_minus k_minus
  have b_minus := F_minus.binds (ps := ["one", "other"]) fun _ _ _ _ _ _ us hl => match us, hl with | [_, _], _ => rfl
  have m_minus := PySem.W.mg_of X G a_minus
  have F_und := fun_mk (st := s_und) l_und c_und k_und
  have b_und := F_und.binds (ps := ["one", "other"]) fun _ _ _ _ _ _ us hl => match us, hl with | [_, _], _ => rfl
  have m_und := PySem.W.mg_of X G a_und
  have F_cho := fun_mk (st := s_cho) l_cho c_cho k_cho
  have b_cho := F_cho.binds (ps := ["n", "k"]) fun _ _ _ _ _ _ us hl => match us, hl with | [_, _], _ => rfl
  have m_cho := PySem.W.mg_of X G a_cho
  have F_pow := fun_mk (st := s_pow) l_pow c_pow k_pow
  have b_pow := F_pow.binds (ps := ["base", "count"]) fun _ _ _ _ _ _ us hl => match us, hl with | [_, _], _ => rfl
  have m_pow := PySem.W.mg_of X G a_pow
  have F_wtop := fun_mk (st := s_wtop) l_wtop c_wtop k_wtop
  have b_wtop := F_wtop.binds (ps := ["n", "k", "p"]) fun _ _ _ _ _ _ us hl => match us, hl with | [_, _, _], _ => rfl
  have m_wtop := PySem.W.mg_of X G a_wtop
  have F_rsum := fun_mk (st := s_rsum) l_rsum c_rsum k_rsum
  have b_rsum := F_rsum.binds (ps := ["n", "i", "j", "p"]) fun _ _ _ _ _ _ us hl => match us, hl with | [_, _, _, _], _ => rfl
  have m_rsum := PySem.W.mg_of X G a_rsum
  have F_ruleof := fun_mk (st := s_ruleof) l_ruleof c_ruleof k_ruleof
  have b_ruleof := F_ruleof.binds (ps := ["n", "stretches"]) fun _ _ _ _ _ _ us hl => match us, hl with | [_, _], _ => rfl
  have m_ruleof := PySem.W.mg_of X G a_ruleof
  have F_rowof := fun_mk (st := s_rowof) l_rowof c_rowof k_rowof
  have b_rowof := F_rowof.binds (ps := ["thing", "count"]) fun _ _ _ _ _ _ us hl => match us, hl with | [_, _], _ => rfl
  have m_rowof := PySem.W.mg_of X G a_rowof
  have F_stof := fun_mk (st := s_stof) l_stof c_stof k_stof
  have b_stof := F_stof.binds (ps := ["thing"]) fun _ _ _ _ _ _ us hl => match us, hl with | [_], _ => rfl
  have m_stof := PySem.W.mg_of X G a_stof
  have F_held := fun_mk (st := s_held) l_held c_held k_held
  have b_held := F_held.binds (ps := ["rule", "p"]) fun _ _ _ _ _ _ us hl => match us, hl with | [_, _], _ => rfl
  have m_held := PySem.W.mg_of X G a_held
  have F_rov := fun_mk (st := s_rov) l_rov c_rov k_rov
  have b_rov := F_rov.binds (ps := ["rule", "a", "b"]) fun _ _ _ _ _ _ us hl => match us, hl with | [_, _, _], _ => rfl
  have m_rov := PySem.W.mg_of X G a_rov
  have F_cov := fun_mk (st := s_cov) l_cov c_cov k_cov
  have b_cov := F_cov.binds (ps := ["rule", "p"]) fun _ _ _ _ _ _ us hl => match us, hl with | [_, _], _ => rfl
  have m_cov := PySem.W.mg_of X G a_cov
  have F_sor := fun_mk (st := s_sor) l_sor c_sor k_sor
  have b_sor := F_sor.binds (ps := ["n", "run", "p"]) fun _ _ _ _ _ _ us hl => match us, hl with | [_, _, _], _ => rfl
  have m_sor := PySem.W.mg_of X G a_sor
  have F_edges := fun_mk (st := s_edges) l_edges c_edges k_edges
  have b_edges := F_edges.binds (ps := ["rule"]) fun _ _ _ _ _ _ us hl => match us, hl with | [_], _ => rfl
  have m_edges := PySem.W.mg_of X G a_edges
  have F_pieces := fun_mk (st := s_pieces) l_pieces c_pieces k_pieces
  have b_pieces := F_pieces.binds (ps := ["rule"]) fun _ _ _ _ _ _ us hl => match us, hl with | [_], _ => rfl
  have m_pieces := PySem.W.mg_of X G a_pieces
  have F_least := fun_mk (st := s_least) l_least c_least k_least
  have b_least := F_least.binds (ps := ["rule"]) fun _ _ _ _ _ _ us hl => match us, hl with | [_], _ => rfl
  have m_least := PySem.W.mg_of X G a_least
  have F_lpl := fun_mk (st := s_lpl) l_lpl c_lpl k_lpl
  have b_lpl := F_lpl.binds (ps := ["rule"]) fun _ _ _ _ _ _ us hl => match us, hl with | [_], _ => rfl
  have m_lpl := PySem.W.mg_of X G a_lpl
  have F_sure := fun_mk (st := s_sure) l_sure c_sure k_sure
  have b_sure := F_sure.binds (ps := ["rule", "share"]) fun _ _ _ _ _ _ us hl => match us, hl with | [_, _], _ => rfl
  have m_sure := PySem.W.mg_of X G a_sure
  have F_lack := fun_mk (st := s_lack) l_lack c_lack k_lack
  have b_lack := F_lack.binds (ps := ["rule", "share", "at", "far"]) fun _ _ _ _ _ _ us hl => match us, hl with | [_, _, _, _], _ => rfl
  have m_lack := PySem.W.mg_of X G a_lack
  have F_lks := fun_mk (st := s_lks) l_lks c_lks k_lks
  have b_lks := F_lks.binds (ps := ["rule", "share", "p"]) fun _ _ _ _ _ _ us hl => match us, hl with | [_, _, _], _ => rfl
  have m_lks := PySem.W.mg_of X G a_lks
  have F_shb := fun_mk (st := s_shb) l_shb c_shb k_shb
  have b_shb := F_shb.binds (ps := ["at", "far", "halvings"]) fun _ _ _ _ _ _ us hl => match us, hl with | [_, _, _], _ => rfl
  have m_shb := PySem.W.mg_of X G a_shb
  have F_sim := fun_mk (st := s_sim) l_sim c_sim k_sim
  have b_sim := F_sim.binds (ps := ["low", "high"]) fun _ _ _ _ _ _ us hl => match us, hl with | [_, _], _ => rfl
  have m_sim := PySem.W.mg_of X G a_sim
  have F_wterm := fun_mk (st := s_wterm) l_wterm c_wterm k_wterm
  have b_wterm := F_wterm.binds (ps := ["term", "last", "before"]) fun _ _ _ _ _ _ us hl => match us, hl with | [_, _, _], _ => rfl
  have m_wterm := PySem.W.mg_of X G a_wterm
  have F_cell := fun_mk (st := s_cell) l_cell c_cell k_cell
  have b_cell := F_cell.binds (ps := ["_law_script", "_law_k"]) fun _ _ _ _ _ _ us hl => match us, hl with | [_, _], _ => rfl
  have m_cell := PySem.W.mg_of X G a_cell
  have F_stream := fun_mk (st := s_stream) l_stream c_stream k_stream
  have b_stream := F_stream.binds (ps := ["_law_cell", "_law_salt", "_law_many"]) fun _ _ _ _ _ _ us hl => match us, hl with | [_, _, _], _ => rfl
  have m_stream := PySem.W.mg_of X G a_stream
  have F_dv := fun_mk (st := s_dv) l_dv c_dv k_dv
  have b_dv := F_dv.binds (ps := ["_law_one", "_law_other"]) fun _ _ _ _ _ _ us hl => match us, hl with | [_, _], _ => rfl
  have m_dv := PySem.W.mg_of X G a_dv
  have F_low := fun_mk (st := s_low) l_low c_low k_low
  have b_low := F_low.binds (ps := ["_law_top", "_law_bottom"]) fun _ _ _ _ _ _ us hl => match us, hl with | [_, _], _ => rfl
  have m_low := PySem.W.mg_of X G a_low
  have F_nm := fun_mk (st := s_nm) l_nm c_nm k_nm
  have b_nm := F_nm.binds (ps := ["_law_one", "_law_other"]) fun _ _ _ _ _ _ us hl => match us, hl with | [_, _], _ => rfl
  have m_nm := PySem.W.mg_of X G a_nm
  have F_ord := fun_mk (st := s_ord) l_ord c_ord k_ord
  have b_ord := F_ord.binds (ps := ["_law_some"]) fun _ _ _ _ _ _ us hl => match us, hl with | [_], _ => rfl
  have m_ord := PySem.W.mg_of X G a_ord
  have F_str := fun_mk (st := s_str) l_str c_str k_str
  have b_str := F_str.binds (ps := ["_law_script", "_law_at", "_law_n"]) fun _ _ _ _ _ _ us hl => match us, hl with | [_, _, _], _ => rfl
  have m_str := PySem.W.mg_of X G a_str
  have F_pows := fun_mk (st := s_pows) l_pows c_pows k_pows
  have b_pows := F_pows.binds (ps := ["_law_number", "_law_many"]) fun _ _ _ _ _ _ us hl => match us, hl with | [_, _], _ => rfl
  have m_pows := PySem.W.mg_of X G a_pows
  have F_chs := fun_mk (st := s_chs) l_chs c_chs k_chs
  have b_chs := F_chs.binds (ps := ["_law_n"]) fun _ _ _ _ _ _ us hl => match us, hl with | [_], _ => rfl
  have m_chs := PySem.W.mg_of X G a_chs
  have F_cvr := fun_mk (st := s_cvr) l_cvr c_cvr k_cvr
  have b_cvr := F_cvr.binds (ps := ["_law_n", "_law_stretches_here", "_law_p"]) fun _ _ _ _ _ _ us hl => match us, hl with | [_, _, _], _ => rfl
  have m_cvr := PySem.W.mg_of X G a_cvr
  have F_isf := fun_mk (st := s_isf) l_isf c_isf k_isf
  have b_isf := F_isf.binds (ps := ["_law_thing"]) fun _ _ _ _ _ _ us hl => match us, hl with | [_], _ => rfl
  have m_isf := PySem.W.mg_of X G a_isf
  have F_shs := fun_mk (st := s_shs) l_shs c_shs k_shs
  have b_shs := F_shs.binds (ps := ["_law_script", "_law_low"]) fun _ _ _ _ _ _ us hl => match us, hl with | [_, _], _ => rfl
  have m_shs := PySem.W.mg_of X G a_shs
  have F_right := fun_mk (st := s_right) l_right c_right k_right
  have b_right := F_right.binds (ps := ["_law_n", "_law_stretches_here", "_law_low", "_law_share", "_law_told"]) fun _ _ _ _ _ _ us hl => match us, hl with | [_, _, _, _, _], _ => rfl
  have m_right := PySem.W.mg_of X G a_right
  have F_law := fun_mk (st := s_law) l_law c_law k_law
  have b_law := F_law.binds (ps := ["_law_script"]) fun _ _ _ _ _ _ us hl => match us, hl with | [_], _ => rfl
  have m_law := PySem.W.mg_of X G a_law
  refine ⟨PySem.W.fnOf "law" "law" (defArgs s_law) (defBody s_law) (defScope s_law) .none kV_law dc_law pm_law an_law cd_law ct_law, fun s v => .of_eq rfl, fun base _ _ => ?_⟩
  have G_cell := ok_cell (P := l.prog) (w := w) (base := base) F_cell T
  have G_stream := ok_stream (P := l.prog) (w := w) (base := base) F_stream T
  have G_dv := ok_dv (P := l.prog) (w := w) (base := base) F_dv T
  have G_low := ok_low (P := l.prog) (w := w) (base := base) F_low T (G_dv.mono (by decide)) b_dv k_dv m_dv
  have G_nm := ok_nm (P := l.prog) (w := w) (base := base) F_nm T
  have G_ord := ok_ord (P := l.prog) (w := w) (base := base) F_ord T (G_nm.mono (by decide)) b_nm k_nm m_nm
  have G_str := ok_str (P := l.prog) (w := w) (base := base) F_str T (G_cell.mono (by decide)) b_cell k_cell m_cell (G_stream.mono (by decide)) b_stream k_stream m_stream (G_low.mono (by decide)) b_low k_low m_low (G_ord.mono (by decide)) b_ord k_ord m_ord (G_nm.mono (by decide)) b_nm k_nm m_nm
  have G_whole := ok_whole (P := l.prog) (w := w) (base := base) F_whole T
  have G_rowof := ok_rowof (P := l.prog) (w := w) (base := base) F_rowof T
  have G_wpair := ok_wpair (P := l.prog) (w := w) (base := base) F_wpair T (G_whole.mono (by decide)) b_whole k_whole m_whole
  have G_cd := ok_cd (P := l.prog) (w := w) (base := base) F_cd T
  have G_share := ok_share (P := l.prog) (w := w) (base := base) F_share T (G_wpair.mono (by decide)) b_wpair k_wpair m_wpair (G_cd.mono (by decide)) b_cd k_cd m_cd
  have G_und := ok_und (P := l.prog) (w := w) (base := base) F_und T
  have G_stof := ok_stof (P := l.prog) (w := w) (base := base) F_stof T (G_rowof.mono (by decide)) b_rowof k_rowof m_rowof (G_share.mono (by decide)) b_share k_share m_share (G_und.mono (by decide)) b_und k_und m_und
  have G_ruleof := ok_ruleof (P := l.prog) (w := w) (base := base) F_ruleof T (G_whole.mono (by decide)) b_whole k_whole m_whole (G_rowof.mono (by decide)) b_rowof k_rowof m_rowof (G_stof.mono (by decide)) b_stof k_stof m_stof (G_und.mono (by decide)) b_und k_und m_und
  have G_edges := ok_edges (P := l.prog) (w := w) (base := base) F_edges T (G_und.mono (by decide)) b_und k_und m_und
  have G_rov := ok_rov (P := l.prog) (w := w) (base := base) F_rov T (G_und.mono (by decide)) b_und k_und m_und
  have G_pieces := ok_pieces (P := l.prog) (w := w) (base := base) F_pieces T (G_edges.mono (by decide)) b_edges k_edges m_edges (G_rov.mono (by decide)) b_rov k_rov m_rov
  have G_cho := ok_cho (P := l.prog) (w := w) (base := base) F_cho T
  have G_pow := ok_pow (P := l.prog) (w := w) (base := base) F_pow T
  have G_wtop := ok_wtop (P := l.prog) (w := w) (base := base) F_wtop T (G_cho.mono (by decide)) b_cho k_cho m_cho (G_pow.mono (by decide)) b_pow k_pow m_pow
  have G_frac := ok_frac (P := l.prog) (w := w) (base := base) F_frac T cf (G_whole.mono (by decide)) b_whole k_whole m_whole (G_cd.mono (by decide)) b_cd k_cd m_cd
  have G_rsum := ok_rsum (P := l.prog) (w := w) (base := base) F_rsum T (G_wtop.mono (by decide)) b_wtop k_wtop m_wtop (G_pow.mono (by decide)) b_pow k_pow m_pow (G_frac.mono (by decide)) b_frac k_frac m_frac
  have G_sor := ok_sor (P := l.prog) (w := w) (base := base) F_sor T (G_rsum.mono (by decide)) b_rsum k_rsum m_rsum
  have G_lpl := ok_lpl (P := l.prog) (w := w) (base := base) F_lpl T (G_pieces.mono (by decide)) b_pieces k_pieces m_pieces (G_sor.mono (by decide)) b_sor k_sor m_sor (G_und.mono (by decide)) b_und k_und m_und
  have G_least := ok_least (P := l.prog) (w := w) (base := base) F_least T (G_lpl.mono (by decide)) b_lpl k_lpl m_lpl
  have G_shs := ok_shs (P := l.prog) (w := w) (base := base) F_shs T (G_cell.mono (by decide)) b_cell k_cell m_cell (G_stream.mono (by decide)) b_stream k_stream m_stream (G_low.mono (by decide)) b_low k_low m_low
  have G_held := ok_held (P := l.prog) (w := w) (base := base) F_held T (G_rov.mono (by decide)) b_rov k_rov m_rov
  have G_cov := ok_cov (P := l.prog) (w := w) (base := base) F_cov T (G_held.mono (by decide)) b_held k_held m_held (G_sor.mono (by decide)) b_sor k_sor m_sor
  have G_lks := ok_lks (P := l.prog) (w := w) (base := base) F_lks T (G_cov.mono (by decide)) b_cov k_cov m_cov (G_und.mono (by decide)) b_und k_und m_und
  have G_minus := ok_minus (P := l.prog) (w := w) (base := base) F_minus T (G_frac.mono (by decide)) b_frac k_frac m_frac
  have G_plus := ok_plus (P := l.prog) (w := w) (base := base) F_plus T (G_frac.mono (by decide)) b_frac k_frac m_frac
  have G_wterm := ok_wterm (P := l.prog) (w := w) (base := base) F_wterm T
  have G_sim := ok_sim (P := l.prog) (w := w) (base := base) F_sim T (G_wterm.mono (by decide)) b_wterm k_wterm m_wterm
  have G_shb := ok_shb (P := l.prog) (w := w) (base := base) F_shb T (G_minus.mono (by decide)) b_minus k_minus m_minus (G_plus.mono (by decide)) b_plus k_plus m_plus (G_frac.mono (by decide)) b_frac k_frac m_frac (G_pow.mono (by decide)) b_pow k_pow m_pow (G_und.mono (by decide)) b_und k_und m_und (G_sim.mono (by decide)) b_sim k_sim m_sim
  have G_lack := ok_lack (P := l.prog) (w := w) (base := base) F_lack T (G_lks.mono (by decide)) b_lks k_lks m_lks (G_shb.mono (by decide)) b_shb k_shb m_shb
  have G_sure := ok_sure (P := l.prog) (w := w) (base := base) F_sure T (G_lpl.mono (by decide)) b_lpl k_lpl m_lpl (G_und.mono (by decide)) b_und k_und m_und (G_lack.mono (by decide)) b_lack k_lack m_lack (G_cov.mono (by decide)) b_cov k_cov m_cov
  have G_isf := ok_isf (P := l.prog) (w := w) (base := base) F_isf T (G_dv.mono (by decide)) b_dv k_dv m_dv
  have G_pows := ok_pows (P := l.prog) (w := w) (base := base) F_pows T
  have G_chs := ok_chs (P := l.prog) (w := w) (base := base) F_chs T
  have G_cvr := ok_cvr (P := l.prog) (w := w) (base := base) F_cvr T (G_pows.mono (by decide)) b_pows k_pows m_pows (G_chs.mono (by decide)) b_chs k_chs m_chs (G_nm.mono (by decide)) b_nm k_nm m_nm (G_low.mono (by decide)) b_low k_low m_low
  have G_right := ok_right (P := l.prog) (w := w) (base := base) F_right T (G_nm.mono (by decide)) b_nm k_nm m_nm (G_isf.mono (by decide)) b_isf k_isf m_isf (G_cvr.mono (by decide)) b_cvr k_cvr m_cvr
  exact ok_law F_law T (G_cell.mono (by decide)) b_cell k_cell m_cell (G_str.mono (by decide)) b_str k_str m_str (G_ruleof.mono (by decide)) b_ruleof k_ruleof m_ruleof (G_least.mono (by decide)) b_least k_least m_least (G_shs.mono (by decide)) b_shs k_shs m_shs (G_sure.mono (by decide)) b_sure k_sure m_sure (G_right.mono (by decide)) b_right k_right m_right
theorem walk {l : PySem.W.OpenLaw} {q : Program} {loose : List Str} {XP : (Str → Option Value) → Heap → Prop} {YP : World → Heap → Prop} {d : DefRec} {K : Params → PySem.W.Frag} (hn : l.most = some 63) (hdf : d.params.defaults = [])
    (hY : ∀ (w : World) (h : Heap), YP w h → (K w.params).In h)
    (F : ∀ (w : World) (mg : Str → Option Value) (fa : Addr) (h : Heap), (K w.params).In h → h.Ns mainGlobals mg → mg d.name = some (.ref fa) →
      ∃ fd : FuncData, (∀ (s : Shared) (u : Value), BindsTo s fd ⟨[u], []⟩ [("_law_script", u)]) ∧ ∀ base : Heap, (K w.params).In base → base.Ns mainGlobals mg → FnOk l.prog w (K w.params) mg base CX0 10 fa fd ["_law_script"] (spLaw (K w.params))) :
    PySem.W.WalkO q loose XP YP l.row.toRowW d [] (fun f vs => PySem.call f vs) :=
  L2.walk_ofB (n := 63) (k := 10) (x := "_law_script") (CX := fun _ => CX0) (sp := fun w => spLaw (K w.params)) hn (by decide) hdf ⟨rfl, by decide, by decide⟩ hY F (fun _ _ a ns hl hb _ hS => ⟨a, ns, rfl, hS, hl, hb, fun _ => rfl⟩) fun _ _ _ _ _ z => z
end K20
open PySem PySem.W PyProof.Rows
def PySem.W.Fast.tw8159313227199455967 : Nat := 0
def PySem.W.Fast.tw8032056048897098357 : Nat := 0
def PySem.W.Fast.tw13263905073937557995 : Nat := 0
def PySem.W.Fast.tw2457919780589876986 : Nat := 0
def PySem.W.Fast.tw8415254173969103366 : Nat := 0
def PySem.W.Fast.tw13328183147695349904 : Nat := 0
def PySem.W.Fast.tw15995598724450816515 : Nat := 0
def PySem.W.Fast.tw3198730075294881056 : Nat := 0
def PySem.W.Fast.tw2813072623818097509 : Nat := 0
def PySem.W.Fast.tw11395481281642945950 : Nat := 0
def PySem.W.Fast.tw1390531992381549736 : Nat := 0
set_option maxRecDepth 100000 in
set_option maxHeartbeats 0 in
theorem PySem.Challenge.cw_surestretch_k20_sure_or_not_holds : PySem.Challenge.rw_surestretch_k20_sure_or_not.Holds := by
  w_on; o_law; k_head; (case hw => w_witness2)
  k_fill
  refine K20.walk (l := PySem.Challenge.rw_surestretch_k20_sure_or_not) rfl rfl (fun w h Y => PySem.W.kIn_of Y) ?F
  case F =>
    intro w mg fa h KX G hmg
    refine' K20.all_mk KX G hmg ?a_whole ?l_whole ?c_whole ?k_whole ?a_share ?l_share ?c_share ?k_share ?a_wpair ?l_wpair ?c_wpair ?k_wpair ?a_cd ?l_cd ?c_cd ?k_cd ?a_frac ?l_frac ?c_frac ?k_frac ?a_plus ?l_plus ?c_plus ?k_plus ?a_minus ?l_minus ?c_minus ?k_minus ?a_und ?l_und ?c_und ?k_und ?a_cho ?l_cho ?c_cho ?k_cho ?a_pow ?l_pow ?c_pow ?k_pow ?a_wtop ?l_wtop ?c_wtop ?k_wtop ?a_rsum ?l_rsum ?c_rsum ?k_rsum ?a_ruleof ?l_ruleof ?c_ruleof ?k_ruleof ?a_rowof ?l_rowof ?c_rowof ?k_rowof ?a_stof ?l_stof ?c_stof ?k_stof ?a_held ?l_held ?c_held ?k_held ?a_rov ?l_rov ?c_rov ?k_rov ?a_cov ?l_cov ?c_cov ?k_cov ?a_sor ?l_sor ?c_sor ?k_sor ?a_edges ?l_edges ?c_edges ?k_edges ?a_pieces ?l_pieces ?c_pieces ?k_pieces ?a_least ?l_least ?c_least ?k_least ?a_lpl ?l_lpl ?c_lpl ?k_lpl ?a_sure ?l_sure ?c_sure ?k_sure ?a_lack ?l_lack ?c_lack ?k_lack ?a_lks ?l_lks ?c_lks ?k_lks ?a_shb ?l_shb ?c_shb ?k_shb ?a_sim ?l_sim ?c_sim ?k_sim ?a_wterm ?l_wterm ?c_wterm ?k_wterm ?a_cell ?l_cell ?c_cell ?k_cell ?a_stream ?l_stream ?c_stream ?k_stream ?a_dv ?l_dv ?c_dv ?k_dv ?a_low ?l_low ?c_low ?k_low ?a_nm ?l_nm ?c_nm ?k_nm ?a_ord ?l_ord ?c_ord ?k_ord ?a_str ?l_str ?c_str ?k_str ?a_pows ?l_pows ?c_pows ?k_pows ?a_chs ?l_chs ?c_chs ?k_chs ?a_cvr ?l_cvr ?c_cvr ?k_cvr ?a_isf ?l_isf ?c_isf ?k_isf ?a_shs ?l_shs ?c_shs ?k_shs ?a_right ?l_right ?c_right ?k_right ?a_law ?l_law ?c_law ?k_law ?z_range ?z_min ?z_max ?z_len ?z_isinstance ?z_int ?z_bool ?z_tuple ?z_abs ?z_all ?z_zip ?z_sum ?z_list ?z_str ?n_StretchError ?n_NoNumber ?x_NoNumber ?ic_NoNumber ?ga_NoNumber ?gt_NoNumber ?cl_NoNumber ?sg_NoNumber ?tk_NoNumber ?ob_NoNumber ?be_NoNumber
    (case a_whole => k_is); (case l_whole => k_is); (case c_whole => k_is); (case k_whole => k_is); (case a_share => k_is); (case l_share => k_is); (case c_share => k_is); (case k_share => k_is)
    (case a_wpair => k_is); (case l_wpair => k_is); (case c_wpair => k_is); (case k_wpair => k_is); (case a_cd => k_is); (case l_cd => k_is); (case c_cd => k_is); (case k_cd => k_is)
    (case a_frac => k_is); (case l_frac => k_is); (case c_frac => k_is); (case k_frac => k_is); (case a_plus => k_is); (case l_plus => k_is); (case c_plus => k_is); (case k_plus => k_is)
    (case a_minus => k_is); (case l_minus => k_is); (case c_minus => k_is); (case k_minus => k_is); (case a_und => k_is); (case l_und => k_is); (case c_und => k_is); (case k_und => k_is)
    (case a_cho => k_is); (case l_cho => k_is); (case c_cho => k_is); (case k_cho => k_is); (case a_pow => k_is); (case l_pow => k_is); (case c_pow => k_is); (case k_pow => k_is)
    (case a_wtop => k_is); (case l_wtop => k_is); (case c_wtop => k_is); (case k_wtop => k_is); (case a_rsum => k_is); (case l_rsum => k_is); (case c_rsum => k_is); (case k_rsum => k_is)
    (case a_ruleof => k_is); (case l_ruleof => k_is); (case c_ruleof => k_is); (case k_ruleof => k_is); (case a_rowof => k_is); (case l_rowof => k_is); (case c_rowof => k_is); (case k_rowof => k_is)
    (case a_stof => k_is); (case l_stof => k_is); (case c_stof => k_is); (case k_stof => k_is); (case a_held => k_is); (case l_held => k_is); (case c_held => k_is); (case k_held => k_is)
    (case a_rov => k_is); (case l_rov => k_is); (case c_rov => k_is); (case k_rov => k_is); (case a_cov => k_is); (case l_cov => k_is); (case c_cov => k_is); (case k_cov => k_is)
    (case a_sor => k_is); (case l_sor => k_is); (case c_sor => k_is); (case k_sor => k_is); (case a_edges => k_is); (case l_edges => k_is); (case c_edges => k_is); (case k_edges => k_is)
    (case a_pieces => k_is); (case l_pieces => k_is); (case c_pieces => k_is); (case k_pieces => k_is); (case a_least => k_is); (case l_least => k_is); (case c_least => k_is); (case k_least => k_is)
    (case a_lpl => k_is); (case l_lpl => k_is); (case c_lpl => k_is); (case k_lpl => k_is); (case a_sure => k_is); (case l_sure => k_is); (case c_sure => k_is); (case k_sure => k_is)
    (case a_lack => k_is); (case l_lack => k_is); (case c_lack => k_is); (case k_lack => k_is); (case a_lks => k_is); (case l_lks => k_is); (case c_lks => k_is); (case k_lks => k_is)
    (case a_shb => k_is); (case l_shb => k_is); (case c_shb => k_is); (case k_shb => k_is); (case a_sim => k_is); (case l_sim => k_is); (case c_sim => k_is); (case k_sim => k_is)
    (case a_wterm => k_is); (case l_wterm => k_is); (case c_wterm => k_is); (case k_wterm => k_is); (case a_cell => k_is); (case l_cell => k_is); (case c_cell => k_is); (case k_cell => k_is)
    (case a_stream => k_is); (case l_stream => k_is); (case c_stream => k_is); (case k_stream => k_is); (case a_dv => k_is); (case l_dv => k_is); (case c_dv => k_is); (case k_dv => k_is)
    (case a_low => k_is); (case l_low => k_is); (case c_low => k_is); (case k_low => k_is); (case a_nm => k_is); (case l_nm => k_is); (case c_nm => k_is); (case k_nm => k_is)
    (case a_ord => k_is); (case l_ord => k_is); (case c_ord => k_is); (case k_ord => k_is); (case a_str => k_is); (case l_str => k_is); (case c_str => k_is); (case k_str => k_is)
    (case a_pows => k_is); (case l_pows => k_is); (case c_pows => k_is); (case k_pows => k_is); (case a_chs => k_is); (case l_chs => k_is); (case c_chs => k_is); (case k_chs => k_is)
    (case a_cvr => k_is); (case l_cvr => k_is); (case c_cvr => k_is); (case k_cvr => k_is); (case a_isf => k_is); (case l_isf => k_is); (case c_isf => k_is); (case k_isf => k_is)
    (case a_shs => k_is); (case l_shs => k_is); (case c_shs => k_is); (case k_shs => k_is); (case a_right => k_is); (case l_right => k_is); (case c_right => k_is); (case k_right => k_is)
    (case a_law => k_is); (case l_law => k_is); (case c_law => k_is); (case k_law => k_is); (case z_range => k_is); (case z_min => k_is); (case z_max => k_is); (case z_len => k_is)
    (case z_isinstance => k_is); (case z_int => k_is); (case z_bool => k_is); (case z_tuple => k_is); (case z_abs => k_is); (case z_all => k_is); (case z_zip => k_is); (case z_sum => k_is)
    (case z_list => k_is); (case z_str => k_is); (case n_StretchError => k_is); (case n_NoNumber => k_is); (case x_NoNumber => k_exc); (case ic_NoNumber => k_is); (case ga_NoNumber => k_is); (case gt_NoNumber => k_is)
    (case cl_NoNumber => k_is); (case sg_NoNumber => k_is); (case tk_NoNumber => k_is); (case ob_NoNumber => k_is); (case be_NoNumber => k_is)