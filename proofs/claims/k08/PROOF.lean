import PyProof.Rows.All
import PyProof.Rows.SortShell
import KE.KSortAsk
import KE.KDictSum
import PyProof.DictItemsLoops
import PyProof.DictItems
import PyProof.DictWalks
import PyProof.DictIter
import PyProof.Rows.CallKwBuiltin
import KE.KRevIter
import PyProof.EnumMake
import Wide.All
import OpenK.AllK
import Wide.FinOn
import Lean
import PyProof.EqAt
import PyProof.EqKinds
import PyProof.TupleCall
import PySem.Challenge.RW_surestretch_k08_whole_all_rows_of_trials
set_option Elab.async false
set_option linter.all false
set_option maxRecDepth 100000
namespace L2
open PySem PySem.Spec PyProof.Rows
noncomputable abbrev Key := Sum Int Str
noncomputable def keyIs : Key → Value → Bool
  | .inl k, v => Value.isInt k v
  | .inr x, v => Value.isStrOf x v
noncomputable def keyH (w : World) : Key → Int
  | .inl k => hashInt k
  | .inr x => hashStr w x
theorem keyIs_shape : ∀ {k : Key} {v : Value}, keyIs k v = true → (∃ i t, k = Sum.inl i ∧ v = Value.int i t) ∨ (∃ x t, k = Sum.inr x ∧ v = Value.str x t)
  | .inl i, v, h => by
    obtain ⟨t, e⟩ := Value.isInt_shape (k := i) (v := v) h
    exact .inl ⟨i, t, rfl, e⟩
  | .inr x, v, h => by
    obtain ⟨t, e⟩ := Value.isStrOf_shape (x := x) (v := v) h
    exact .inr ⟨x, t, rfl, e⟩
theorem key_ll (a b : Int) : decide ((Sum.inl a : Key) = Sum.inl b) = (a == b) := by
  by_cases e : a = b
  · subst e; simp
  · have h : ¬ (Sum.inl a : Key) = Sum.inl b := fun q => e (Sum.inl.inj q)
    rw [decide_eq_false h]
    exact (beq_eq_false_iff_ne.mpr e).symm
theorem key_rr (a b : Str) : decide ((Sum.inr a : Key) = Sum.inr b) = decide (a = b) := by
  by_cases e : a = b
  · subst e; simp
  · have h : ¬ (Sum.inr a : Key) = Sum.inr b := fun q => e (Sum.inr.inj q)
    rw [decide_eq_false h, decide_eq_false e]
theorem key_lr (a : Int) (b : Str) : decide ((Sum.inl a : Key) = Sum.inr b) = false := decide_eq_false (fun q => nomatch q)
theorem key_rl (a : Str) (b : Int) : decide ((Sum.inr a : Key) = Sum.inl b) = false := decide_eq_false (fun q => nomatch q)
noncomputable def mixKind (prog : Program) (w : World) : PySem.KeyKind prog w Key where
  is := keyIs
  hash := keyH w
  inj := fun v a b ha hb => by
    rcases keyIs_shape ha with ⟨i, t, rfl, rfl⟩ | ⟨x, t, rfl, rfl⟩
    · rcases keyIs_shape hb with ⟨j, u, rfl, e⟩ | ⟨y, u, rfl, e⟩
      · injection e with e1 _; rw [e1]
      · exact nomatch e
    · rcases keyIs_shape hb with ⟨j, u, rfl, e⟩ | ⟨y, u, rfl, e⟩
      · exact nomatch e
      · injection e with e1 _; rw [e1]
  byValue := fun k v h => by
    rcases keyIs_shape h with ⟨i, t, rfl, rfl⟩ | ⟨x, t, rfl, rfl⟩ <;> rfl
  pyHash := fun hv h => by
    rcases keyIs_shape hv with ⟨i, t, rfl, rfl⟩ | ⟨x, t, rfl, rfl⟩
    · exact wpAny_pyHash_int h
    · exact wpAny_pyHash_str h
  eqBool := fun hu hv h => by
    rcases keyIs_shape hu with ⟨i, t, rfl, rfl⟩ | ⟨x, t, rfl, rfl⟩
    · rcases keyIs_shape hv with ⟨j, u, rfl, rfl⟩ | ⟨y, u, rfl, rfl⟩
      · rw [key_ll] at h; exact wpAny_eqBool_int h
      · rw [key_lr] at h; exact SeqAt.EqAt.int_str i t y u _ _ _ _ h
    · rcases keyIs_shape hv with ⟨j, u, rfl, rfl⟩ | ⟨y, u, rfl, rfl⟩
      · rw [key_rl] at h; exact SeqAt.EqAt.str_int x t j u _ _ _ _ h
      · rw [key_rr] at h; exact wpAny_eqBool_str h
  «strs» := fun k x t v h => by
    rcases keyIs_shape h with ⟨i, u, rfl, e⟩ | ⟨y, u, rfl, e⟩
    · exact nomatch e
    · injection e with e1 _
      subst e1
      cases v <;> rfl
end L2
namespace L2
open PySem PySem.Spec PyProof.Rows
inductive V where
  | non | bl (b : Bool) | int (i : Int) | str (x : Str) | byt (b : Array UInt8) | flt (b : UInt64) | ref (a : Addr) | ty (n : String)
  deriving DecidableEq
noncomputable def RelV : V → Value → Prop
  | .non, u => u = Value.none
  | .bl b, u => u = Value.bool b
  | .int i, u => ∃ t, u = Value.int i t
  | .str x, u => ∃ t, u = Value.str x t
  | .byt b, u => ∃ t, u = Value.bytes b t
  | .flt b, u => ∃ t, u = Value.float b t
  | .ref a, u => u = Value.ref a
  | .ty n, u => u = Value.type n
noncomputable abbrev Vals : List V → List Value → Prop := Paired RelV
theorem Vals.length {xs : List V} {us : List Value} (r : Vals xs us) : xs.length = us.length := Paired.length r
theorem Vals.get : ∀ {xs : List V} {us : List Value} {i : Nat} {x : V}, Vals xs us → xs[i]? = some x → ∃ u, us[i]? = some u ∧ RelV x u
  | _, _, _, _, .nil, e => by simp at e
  | _, _, 0, _, .cons r _, e => by simp at e; subst e; exact ⟨_, rfl, r⟩
  | _, _, i + 1, x, .cons _ t, e => by
    obtain ⟨u, h1, h2⟩ := Vals.get (i := i) (x := x) t (by simpa using e)
    exact ⟨u, by simpa using h1, h2⟩
theorem Vals.set {x : V} {u : Value} (r : RelV x u) : ∀ {xs : List V} {us : List Value} (i : Nat), Vals xs us → Vals (xs.set i x) (us.set i u)
  | _, _, _, .nil => .nil
  | _, _, 0, .cons _ t => .cons r t
  | _, _, i + 1, .cons q t => .cons q (Vals.set r i t)
theorem Vals.append : ∀ {xs ys : List V} {us ws : List Value}, Vals xs us → Vals ys ws → Vals (xs ++ ys) (us ++ ws)
  | _, _, _, _, .nil, s => s
  | _, _, _, _, .cons r t, s => .cons r (Vals.append t s)
theorem Vals.take : ∀ {xs : List V} {us : List Value} (n : Nat), Vals xs us → Vals (xs.take n) (us.take n)
  | _, _, 0, _ => .nil
  | _, _, _ + 1, .nil => .nil
  | _, _, n + 1, .cons r t => .cons r (Vals.take n t)
theorem Vals.drop : ∀ {xs : List V} {us : List Value} (n : Nat), Vals xs us → Vals (xs.drop n) (us.drop n)
  | _, _, 0, r => r
  | _, _, _ + 1, .nil => .nil
  | _, _, n + 1, .cons _ t => Vals.drop n t
noncomputable def RelO : Option V → Option Value → Prop
  | some v, some u => RelV v u
  | none, none => True
  | _, _ => False
noncomputable def KV {κ : Type} : List (κ × V) → List (κ × Value) → Prop := Paired fun (p : κ × V) (q : κ × Value) => p.1 = q.1 ∧ RelV p.2 q.2
noncomputable def kV : Key → V
  | .inl i => .int i
  | .inr x => .str x
inductive HO where
  | lst (xs : List V)
  | tup (xs : List V)
  | dK (kvs : List (Key × V)) | dT (kvs : List (List Key × V))
  | set (S : Int → Bool) (n : Nat)
  | ins (C dx : Addr) (fs : List (Str × V))
  | own (x : Addr)
  | xd (fs : List (Str × V))
  | met (f x : Addr)
  | rng (lo hi : Int)
  | frz (o : Obj) (u : HO)
  | tbl (ps : Array Value)
  | ext (φ : Heap → Prop)
noncomputable abbrev Hp := Addr → Option HO
noncomputable def upd (H : Hp) (a : Addr) (o : HO) : Hp := fun b => if b = a then some o else H b
theorem upd_same {H : Hp} {a : Addr} {o : HO} : upd H a o a = some o := by unfold upd; rw [if_pos rfl]
theorem upd_ne {H : Hp} {a b : Addr} {o : HO} (h : b ≠ a) : upd H a o b = H b := by unfold upd; rw [if_neg h]
theorem ne_of_none {H : Hp} {a b : Addr} {o : HO} (h : H a = some o) (h' : H b = none) : a ≠ b := by
  intro e; subst e; rw [h] at h'; cases h'
section
variable (P : Program) (w : World)
noncomputable def ObjOk (H : Hp) (h : Heap) (a : Addr) : HO → Prop
  | .lst xs => xs.length ≤ sizeLine ∧ ∃ (its : List Value) (n : Nat), Vals xs its ∧ h.get? a = some { cls := .type "list", data := .seq its.toArray n }
  | .tup xs => xs.length ≤ sizeLine ∧ ∃ its : List Value, Vals xs its ∧ IsTup h a its.toArray
  | .dK kvs => kvs.length ≤ sizeLine ∧ (a == sysModules) = false ∧ ∃ vs, KV kvs vs ∧ h.DictOf (mixKind P w) a vs
  | .dT kvs => kvs.length ≤ sizeLine ∧ (a == sysModules) = false ∧ ∃ xs : List (List Key × Addr × Value),
      Paired (fun (p : List Key × V) (q : List Key × Addr × Value) => p.1 = q.1 ∧ H q.2.1 = some (.tup (p.1.map kV)) ∧ RelV p.2 q.2.2) kvs xs ∧
      ∃ o es ep, h.get? a = some o ∧ o.ExactDict ∧ o.data = .dict es ep ∧ es.toList = xs.map (entryOfKey (tupleKind (mixKind P w))) ∧ (xs.map (·.1)).Nodup
  | .set S n => h.SetOf (intKind P w) a S n
  | .ins C dx fs => H dx = some (.own a) ∧ fs.length ≤ 1000 ∧ dx ≠ a ∧ h.get? a = some (PySem.W.instObj C dx) ∧
      ∃ mA, h.Ns1 dx mA ∧ (∀ f, RelO (fs.lookup f) (mA f)) ∧ PySem.Within mA (fs.map (·.1))
  | .own _ => ∃ o, h.get? a = some o
  | .xd fs => ∃ mA, h.Ns1 a mA ∧ ∀ f, RelO (fs.lookup f) (mA f)
  | .rng lo hi => ∃ t u v, h.get? a = some { cls := .type "range", data := .fields #[.int lo t, .int hi u, .int 1 v] }
  | .frz o u => h.get? a = some o ∧ ObjOk H h a u
  | .tbl ps => h.get? a = some { cls := .none, data := .fields ps }
  | .met f x => h.get? a = some (PySem.W.methodObj (.ref f) (.ref x))
  | .ext φ => φ h ∧ (∃ o, h.get? a = some o) ∧ ∀ h1 h2 : Heap, φ h1 → (∀ o, h1.get? a = some o → h2.get? a = some o) → φ h2
noncomputable def HOk (H : Hp) (h : Heap) : Prop := ∀ a o, H a = some o → ObjOk P w H h a o
end
section
variable {P : Program} {w : World} {H H' : Hp} {h h' : Heap} {a : Addr} {o : HO}
theorem ObjOk.lt (x : ObjOk P w H h a o) : a < h.objs.size := by
  cases o with
  | lst xs => obtain ⟨_, _, _, _, e⟩ := x; exact Heap.lt_size e
  | tup xs => obtain ⟨_, _, _, p⟩ := x; exact p.lt
  | dK kvs => obtain ⟨_, _, _, _, o, _, _, e, _⟩ := x; exact Heap.lt_size e
  | dT kvs => obtain ⟨_, _, _, _, o, _, _, e, _⟩ := x; exact Heap.lt_size e
  | set S n => obtain ⟨o, _, _, _, e, _⟩ := x; exact Heap.lt_size e
  | ins C dx fs => obtain ⟨_, _, _, e, _⟩ := x; exact Heap.lt_size e
  | own y => obtain ⟨_, e⟩ := x; exact Heap.lt_size e
  | xd fs => obtain ⟨_, ⟨_, _, _, e, _⟩, _⟩ := x; exact Heap.lt_size e
  | rng lo hi => obtain ⟨_, _, _, e⟩ := x; exact Heap.lt_size e
  | frz ob u => obtain ⟨e, _⟩ := x; exact Heap.lt_size e
  | tbl ps => exact Heap.lt_size (show h.get? a = some _ from x)
  | met f y => exact Heap.lt_size (show h.get? a = some _ from x)
  | ext φ => obtain ⟨_, ⟨_, e⟩, _⟩ := x; exact Heap.lt_size e
theorem Paired.mapP {α β : Type} {F G : α → β → Prop} : ∀ {l₁ : List α} {l₂ : List β}, Paired F l₁ l₂ → (∀ a b, F a b → G a b) → Paired G l₁ l₂
  | _, _, .nil, _ => .nil
  | _, _, .cons r t, f => .cons (f _ _ r) (Paired.mapP t f)
theorem ObjOk.stay (x : ObjOk P w H h a o) (k : ∀ b u, (b = a ∨ H b = some (.own a)) → h.get? b = some u → h'.get? b = some u)
    (ho : ∀ b, H b = some (.own a) → H' b = some (.own a)) (ht : ∀ b xs, H b = some (.tup xs) → H' b = some (.tup xs)) : ObjOk P w H' h' a o := by
  induction o with
  | lst xs => obtain ⟨z, its, n, r, e⟩ := x; exact ⟨z, its, n, r, k _ _ (.inl rfl) e⟩
  | tup xs => obtain ⟨z, its, r, ob, e, c⟩ := x; exact ⟨z, its, r, ob, k _ _ (.inl rfl) e, c⟩
  | dK kvs => obtain ⟨z, y, vs, r, ob, es, ep, e, c⟩ := x; exact ⟨z, y, vs, r, ob, es, ep, k _ _ (.inl rfl) e, c⟩
  | dT kvs =>
    obtain ⟨z, y, xs, r, ob, es, ep, e, c⟩ := x
    exact ⟨z, y, xs, Paired.mapP r fun p q z => ⟨z.1, ht _ _ z.2.1, z.2.2⟩, ob, es, ep, k _ _ (.inl rfl) e, c⟩
  | set S n => obtain ⟨ob, es, ep, t, e, c⟩ := x; exact ⟨ob, es, ep, t, k _ _ (.inl rfl) e, c⟩
  | ins C dx fs =>
    obtain ⟨d, z, ne, e, mA, ⟨od, es, ep, e2, c⟩, r⟩ := x
    exact ⟨ho _ d, z, ne, k _ _ (.inl rfl) e, mA, ⟨od, es, ep, k _ _ (.inr d) e2, c⟩, r⟩
  | own y => obtain ⟨ob, e⟩ := x; exact ⟨ob, k _ _ (.inl rfl) e⟩
  | xd fs => obtain ⟨mA, ⟨od, es, ep, e, c⟩, r⟩ := x; exact ⟨mA, ⟨od, es, ep, k _ _ (.inl rfl) e, c⟩, r⟩
  | rng lo hi => obtain ⟨t, u, v, e⟩ := x; exact ⟨t, u, v, k _ _ (.inl rfl) e⟩
  | frz ob u ih => obtain ⟨e, q⟩ := x; exact ⟨k _ _ (.inl rfl) e, ih q⟩
  | tbl ps =>
    have e : h.get? a = some { cls := .none, data := .fields ps } := x
    show h'.get? a = some { cls := .none, data := .fields ps }
    exact k a _ (.inl rfl) e
  | met f y =>
    have e : h.get? a = some (PySem.W.methodObj (.ref f) (.ref y)) := x
    show h'.get? a = some (PySem.W.methodObj (.ref f) (.ref y))
    exact k a _ (.inl rfl) e
  | ext φ => obtain ⟨p, ⟨o, e⟩, st⟩ := x; exact ⟨st _ _ p fun o q => k _ _ (.inl rfl) q, ⟨o, k _ _ (.inl rfl) e⟩, st⟩
theorem HOk.lt (x : HOk P w H h) (e : H a = some o) : a < h.objs.size := (x a o e).lt
theorem HOk.fresh (x : HOk P w H h) (e : h.objs.size ≤ a) : H a = none := by
  cases q : H a with
  | none => rfl
  | some u => exact absurd (Nat.lt_of_lt_of_le (x.lt q) e) (Nat.lt_irrefl _)
theorem HOk.kept (x : HOk P w H h) (k : ∀ b u, h.get? b = some u → h'.get? b = some u) : HOk P w H h' := fun a o e =>
  (x a o e).stay (fun b u _ q => k b u q) (fun _ q => q) fun _ _ q => q
theorem HOk.laid (x : HOk P w H h) (k : ∀ b u, h.get? b = some u → h'.get? b = some u) (hp : h.objs.size ≤ a) (new : ObjOk P w (upd H a o) h' a o) : HOk P w (upd H a o) h' := fun b u e => by
  have hn := x.fresh hp
  by_cases hb : b = a
  · subst hb; rw [upd_same] at e; cases e; exact new
  · rw [upd_ne hb] at e
    exact (x b u e).stay (fun c v _ q => k c v q) (fun c q => by rw [upd_ne (ne_of_none q hn)]; exact q) fun c xs q => by rw [upd_ne (ne_of_none q hn)]; exact q
end
noncomputable def Rd (H : Hp) (a : Addr) (u : HO) : Prop := H a = some u ∨ ∃ o, H a = some (.frz o u)
theorem Rd.of {H : Hp} {a : Addr} {u : HO} (h : H a = some u) : Rd H a u := .inl h
theorem Rd.ok {P : Program} {w : World} {H : Hp} {h : Heap} {a : Addr} {u : HO} (r : Rd H a u) (x : HOk P w H h) : ObjOk P w H h a u := by
  rcases r with r | ⟨o, r⟩
  · exact x a u r
  · obtain ⟨_, q⟩ := x a _ r
    exact q
noncomputable def Mut : Option HO → Prop
  | some (.lst _) => True
  | some (.dK _) => True
  | some (.dT _) => True
  | some (.set _ _) => True
  | some (.ins _ _ _) => True
  | some (.ext _) => True
  | _ => False
section
variable {P : Program} {w : World} {H : Hp} {h h' : Heap} {x e : Addr} {o' : HO}
theorem HOk.write (ok : HOk P w H h) (mu : Mut (H x)) (he : e = x ∨ H e = some (.own x)) (k : ∀ b u, b ≠ e → h.get? b = some u → h'.get? b = some u) (heo : ∃ u, h'.get? e = some u)
    (new : ObjOk P w (upd H x o') h' x o') : HOk P w (upd H x o') h' := fun b u q => by
  have nown : ∀ c y, H c = some (.own y) → c ≠ x := fun c y r z => by subst z; rw [r] at mu; exact mu
  have ntup : ∀ c xs, H c = some (.tup xs) → c ≠ x := fun c xs r z => by subst z; rw [r] at mu; exact mu
  by_cases hb : b = x
  · subst hb; rw [upd_same] at q; cases q; exact new
  · rw [upd_ne hb] at q
    by_cases hbe : b = e
    · have q' : H b = some (.own x) := by
        rcases he with z | z
        · exact absurd (hbe.trans z) hb
        · rw [hbe]; exact z
      rw [q] at q'; cases q'
      obtain ⟨v, hv⟩ := heo
      exact ⟨v, by rw [hbe]; exact hv⟩
    · refine (ok b u q).stay (fun c v hc r => k c v ?_ r) (fun c r => by rw [upd_ne (nown c b r)]; exact r) fun c xs r => by rw [upd_ne (ntup c xs r)]; exact r
      rcases hc with rfl | hc
      · exact hbe
      · rintro rfl
        rcases he with z | z
        · exact nown c b hc z
        · rw [hc] at z; cases z; exact hb rfl
end
structure Un (fs ex : List Addr) (H H' : Hp) (h h' : Heap) : Prop where
  keep : ∀ b o, h.get? b = some o → H b = none → b ∉ fs → b ∉ ex → h'.get? b = some o
  slot : ∀ b o, h.get? b = some o → H b = none → b ∈ fs → b ∉ ex → ∃ sl, h'.get? b = some { o with slots := sl }
  free : ∀ b o, h.get? b = some o → H b = none → b ∉ ex → H' b = none
  there : ∀ b o, h.get? b = some o → b ∉ ex → ∃ o', h'.get? b = some o'
  tups : ∀ b xs, H b = some (.tup xs) → H' b = some (.tup xs)
  frzs : ∀ b o u, H b = some (.frz o u) → H' b = some (.frz o u)
  tbls : ∀ b ps, H b = some (.tbl ps) → ∃ more, H' b = some (.tbl (ps ++ more))
section
variable {fs fs' ex ex' : List Addr} {H H1 H2 : Hp} {h h1 h2 h' : Heap} {a x e : Addr} {o : HO}
theorem Un.any (u : Un fs ex H H1 h h1) {b : Addr} {ob : Obj} (q : h.get? b = some ob) (n : H b = none) (hx : b ∉ ex) : ∃ sl, h1.get? b = some { ob with slots := sl } := by
  by_cases hb : b ∈ fs
  · exact u.slot b ob q n hb hx
  · exact ⟨ob.slots, u.keep b ob q n hb hx⟩
theorem Un.trans (a : Un fs ex H H1 h h1) (b : Un fs ex H1 H2 h1 h2) : Un fs ex H H2 h h2 where
  keep := fun c ob q n hc hx => b.keep c ob (a.keep c ob q n hc hx) (a.free c ob q n hx) hc hx
  slot := fun c ob q n hc hx => by
    obtain ⟨sl, e1⟩ := a.slot c ob q n hc hx
    obtain ⟨sl', e2⟩ := b.slot c _ e1 (a.free c ob q n hx) hc hx
    exact ⟨sl', e2⟩
  free := fun c ob q n hx => by
    obtain ⟨o', e1⟩ := a.there c ob q hx
    exact b.free c o' e1 (a.free c ob q n hx) hx
  there := fun c ob q hx => by
    obtain ⟨o', e1⟩ := a.there c ob q hx
    exact b.there c o' e1 hx
  tups := fun c xs q => b.tups c xs (a.tups c xs q)
  frzs := fun c ob xs q => b.frzs c ob xs (a.frzs c ob xs q)
  tbls := fun c ps q => by
    obtain ⟨m1, e1⟩ := a.tbls c ps q
    obtain ⟨m2, e2⟩ := b.tbls c _ e1
    exact ⟨m1 ++ m2, by rw [e2, Array.append_assoc]⟩
theorem Un.kept (k : ∀ b u, h.get? b = some u → h'.get? b = some u) : Un fs ex H H h h' :=
  ⟨fun b ob q _ _ _ => k b ob q, fun b ob q _ _ _ => ⟨ob.slots, k b ob q⟩, fun _ _ _ n _ => n, fun b ob q _ => ⟨ob, k b ob q⟩, fun _ _ q => q, fun _ _ _ q => q, fun _ ps q => ⟨#[], by rw [q]; simp⟩⟩
theorem Un.refl : Un fs ex H H h h := Un.kept fun _ _ q => q
theorem Un.laid (k : ∀ b u, h.get? b = some u → h'.get? b = some u) (hp : h.objs.size ≤ a) (hn : H a = none) : Un fs ex H (upd H a o) h h' where
  keep := fun b u q _ _ _ => k b u q
  slot := fun b u q _ _ _ => ⟨u.slots, k b u q⟩
  free := fun b u q n _ => by rw [upd_ne (Nat.ne_of_lt (Nat.lt_of_lt_of_le (Heap.lt_size q) hp))]; exact n
  there := fun b u q _ => ⟨u, k b u q⟩
  tups := fun b xs q => by rw [upd_ne (ne_of_none q hn)]; exact q
  frzs := fun b u xs q => by rw [upd_ne (ne_of_none q hn)]; exact q
  tbls := fun b ps q => ⟨#[], by rw [upd_ne (ne_of_none q hn), q]; simp⟩
theorem Un.write (mu : Mut (H x)) (he : e = x ∨ H e = some (.own x)) (k : ∀ b u, b ≠ e → h.get? b = some u → h'.get? b = some u) (heo : ∃ u, h'.get? e = some u) : Un fs ex H (upd H x o) h h' := by
  have hx : ∀ b, H b = none → b ≠ x := fun b n z => by subst z; rw [n] at mu; exact mu
  have hb : ∀ b, H b = none → b ≠ e := fun b n z => by
    subst z
    rcases he with r | r
    · exact hx b n r
    · rw [n] at r; cases r
  have hm : ∀ b u, H b = some u → ¬ Mut (some u) → b ≠ x := fun b u q nm z => by subst z; rw [q] at mu; exact nm mu
  refine ⟨fun b u q n _ _ => k b u (hb b n) q, fun b u q n _ _ => ⟨u.slots, k b u (hb b n) q⟩, fun b u q n _ => by rw [upd_ne (hx b n)]; exact n, fun b u q _ => ?_,
    fun b xs q => by rw [upd_ne (hm b _ q fun z => z)]; exact q, fun b u xs q => by rw [upd_ne (hm b _ q fun z => z)]; exact q, fun b ps q => ⟨#[], by rw [upd_ne (hm b _ q fun z => z), q]; simp⟩⟩
  by_cases hbe : b = e
  · subst hbe; exact heo
  · exact ⟨u, k b u hbe q⟩
theorem Un.mono (u : Un fs ex H H1 h h1) (hs : ∀ b ∈ fs, b ∈ fs') (hx : ∀ b ∈ ex, b ∈ ex') : Un fs' ex' H H1 h h1 :=
  ⟨fun b ob q n hb he => u.keep b ob q n (fun z => hb (hs b z)) fun z => he (hx b z), fun _ _ q n _ he => u.any q n fun z => he (hx _ z), fun b ob q n he => u.free b ob q n fun z => he (hx b z), fun b ob q he => u.there b ob q fun z => he (hx b z), u.tups, u.frzs, u.tbls⟩
end
noncomputable def trk (h : Heap) (H : Hp) : List Addr := (List.range h.objs.size).filter fun a => (H a).isSome
noncomputable def hidT (h : Heap) (H : Hp) : Heap := PySem.W.hideAll h (trk h H)
theorem hidT_size (h : Heap) (H : Hp) : (hidT h H).objs.size = h.objs.size := PySem.W.hideAll_size _ _
theorem hidT_get {h : Heap} {H : Hp} {b : Addr} {o : Obj} (e : h.get? b = some o) (n : H b = none) : (hidT h H).get? b = some o :=
  PySem.W.hideAll_get _ e fun hm => by
    have q : (H b).isSome = true := (List.mem_filter.mp hm).2
    rw [n] at q; simp at q
theorem of_hidT {h : Heap} {H : Hp} {b : Addr} {o : Obj} (e : (hidT h H).get? b = some o) : h.get? b = some o ∧ H b = none := by
  have e' : h.get? b = some o := PySem.W.of_hideAll (trk h H) e
  refine ⟨e', ?_⟩
  cases q : H b with
  | none => rfl
  | some x =>
    have hm : b ∈ trk h H := List.mem_filter.mpr ⟨List.mem_range.mpr (Heap.lt_size e'), by simp [q]⟩
    have z : (hidT h H).get? b = none := PySem.W.hideAll_none (trk h H) hm
    rw [z] at e; cases e
noncomputable def allNews (g h : Heap) (L : Addr) : List (Addr × Obj) := (List.range h.objs.size).filterMap fun a => if a = L ∨ (g.get? a).isSome = true then none else (h.get? a).map fun o => (a, o)
noncomputable def rest (g h : Heap) (L d : Addr) : List (Addr × Obj) := (allNews g h L).filter fun p => decide (p.1 ≠ d)
end L2
namespace L2
open PySem PySem.Spec PyProof.Rows
structure Mod (K : PySem.W.Frag) (mg : Str → Option Value) (base : Heap) : Prop where
  kin : K.In base
  glob : base.Ns mainGlobals mg
  blt : ∃ mb, base.Ns builtinsNs mb ∧ ∀ x : Str, x ≠ "__name__" → mb x = bootBuiltins x
  nolimit : base.NoLimit
structure Cx where
  prog : Program
  w : World
  K : PySem.W.Frag
  mg : Str → Option Value
  base : Heap
  A : Around
  N : List Str
  s₀ : Shared
  H₀ : Hp
  env : Env
  outer : List Env
  stack : List Env
  ex : List Addr
  fn : Str → Bool
  calm : Bool
  pn : List (Addr × Obj)
  xe : Value → Shared → Prop
noncomputable def frs (l : List Env) : List Addr := l.filterMap (·.frame)
noncomputable abbrev Cx.fs (X : Cx) : List Addr := frs X.outer
noncomputable def Vis (sc : Scope) (x : Str) : Prop := sc.names.lookup x = some .local ∨ sc.names.lookup x = some .cell ∨ sc.names.lookup x = some .free
noncomputable def Loc (sc : Scope) (x : Str) : Prop := sc.names.lookup x = some .local ∨ sc.names.lookup x = some .cell
noncomputable def Look (env : Env) (h : Heap) (m : Str → Option Value) (x : Str) (u : Value) : Prop :=
  (env.kindOf x = some .local ∧ m x = some u) ∨ ((env.kindOf x = some .cell ∨ env.kindOf x = some .free) ∧ ∃ c, env.cells.lookup x = some c ∧ h.IsCell c (some u))
structure Cx.Ok (X : Cx) : Prop where
  mod : Mod X.K X.mg X.base
  kind : X.env.scope.kind = .function
  glob : X.env.globals = mainGlobals
  blt : X.env.builtins = builtinsNs
  above : X.s₀.heap.objs.size ≤ X.env.locals
  inj : ∀ x y c, X.env.cells.lookup x = some c → X.env.cells.lookup y = some c → x = y
  has : ∀ x, (X.env.kindOf x = some .cell ∨ X.env.kindOf x = some .free) → ∃ c, X.env.cells.lookup x = some c
  cab : ∀ x c, X.fn x = true → X.env.cells.lookup x = some c → X.s₀.heap.objs.size ≤ c
  hd : X.calm = true → X.A.handled = none
  frames : X.A.frames = some X.stack
  stk : X.stack = X.outer ∨ (X.stack = X.env :: X.outer ∧ X.env.frame = some X.env.locals)
  exf : ∀ b ∈ X.ex, b ≠ X.env.locals ∧ ∀ x c, X.env.cells.lookup x = some c → c ≠ b
  bs : ∀ b o, X.base.get? b = some o → X.s₀.heap.get? b = some o ∧ X.H₀ b = none
  bsz : X.base.objs.size ≤ X.s₀.heap.objs.size
  noex : ∀ b o, X.base.get? b = some o → b ∉ X.ex
  exfs : ∀ b ∈ X.ex, b ∉ X.fs
  funs : X.s₀.heap.FunFrames X.base X.outer
  frf : ∀ b ∈ X.fs, X.H₀ b = none
structure Inv (X : Cx) (pins : List (Addr × Obj)) (σ : List (Option V)) (H : Hp) (s : Shared) : Prop where
  ok : X.Ok
  os : s.os = X.s₀.os
  bare : AllBare s.gens
  base : Un X.fs X.ex X.H₀ H X.s₀.heap s.heap
  loc : ∃ m, s.heap.Ns X.env.locals m ∧ ∀ (i : Nat) (x : Str) (v : V), X.N[i]? = some x → σ[i]? = some (some v) → Vis X.env.scope x → ∃ u, RelV v u ∧ Look X.env s.heap m x u
  cell : ∀ x c, X.env.cells.lookup x = some c → ∃ v, s.heap.IsCell c v
  free : H X.env.locals = none
  freeC : ∀ x c, X.env.cells.lookup x = some c → H c = none
  pin : ∀ p ∈ X.pn ++ pins, s.heap.get? p.1 = some p.2 ∧ H p.1 = none ∧ p.1 ≠ X.env.locals ∧ p.1 ∉ X.fs ∧ ∀ v, p.2.data ≠ .cell v
  hok : HOk X.prog X.w H s.heap
  len : σ.length = X.N.length
section
variable {X : Cx} {pins : List (Addr × Obj)} {σ : List (Option V)} {H H' : Hp} {s : Shared} {h' : Heap}
theorem Cx.Ok.nofr (ok : X.Ok) {b : Addr} {o : Obj} (e : X.base.get? b = some o) : b ∉ X.fs := fun hb => by
  have := (ok.funs.mem hb).1
  rw [e] at this; cases this
theorem Inv.bs (I : Inv X pins σ H s) : ∀ b o, X.base.get? b = some o → s.heap.get? b = some o ∧ H b = none := fun b o e =>
  ⟨I.base.keep b o (I.ok.bs b o e).1 (I.ok.bs b o e).2 (I.ok.nofr e) (I.ok.noex b o e), I.base.free b o (I.ok.bs b o e).1 (I.ok.bs b o e).2 (I.ok.noex b o e)⟩
theorem Inv.bk (I : Inv X pins σ H s) : ∀ b o, X.base.get? b = some o → s.heap.get? b = some o := fun b o e => (I.bs b o e).1
theorem Inv.mod (I : Inv X pins σ H s) : Mod X.K X.mg X.base := I.ok.mod
theorem Inv.kIn (I : Inv X pins σ H s) : X.K.In s.heap := I.ok.mod.kin.keeps I.bk
theorem Inv.nolimit (I : Inv X pins σ H s) : s.heap.NoLimit := I.ok.mod.nolimit.keeps I.bk
theorem Inv.fr (I : Inv X pins σ H s) : ∃ m, Fr X.base X.env.locals s.heap m :=
  let ⟨m, hn, _⟩ := I.loc
  ⟨m, hn, I.bk, Nat.le_trans I.ok.bsz I.ok.above⟩
theorem Inv.lt (I : Inv X pins σ H s) : X.env.locals < s.heap.objs.size := let ⟨_, hn, _⟩ := I.loc; hn.lt
theorem Inv.sz (I : Inv X pins σ H s) : X.s₀.heap.objs.size ≤ s.heap.objs.size := Nat.le_trans I.ok.above (Nat.le_of_lt I.lt)
theorem Inv.nofs (I : Inv X pins σ H s) {a : Addr} (h : s.heap.objs.size ≤ a) : a ∉ X.fs := fun hb => by
  obtain ⟨_, o, ho, _⟩ := I.ok.funs.mem hb
  exact absurd (Nat.lt_of_lt_of_le (Heap.lt_size ho) (Nat.le_trans I.sz h)) (Nat.lt_irrefl _)
theorem Inv.cne (I : Inv X pins σ H s) : ∀ x c, X.env.cells.lookup x = some c → c ≠ X.env.locals := fun x c e z => by
  obtain ⟨v, o, ho, hd⟩ := I.cell x c e
  obtain ⟨m, ⟨o', es, ep, ho', hd', _⟩, _⟩ := I.loc
  rw [z, ho'] at ho; cases ho; rw [hd'] at hd; cases hd
theorem Inv.funs (I : Inv X pins σ H s) : s.heap.FunFrames X.base X.outer := by
  have all : ∀ (l : List Env), (∀ b ∈ frs l, b ∈ X.fs) → X.s₀.heap.FunFrames X.base l → s.heap.FunFrames X.base l := by
    intro l
    induction l with
    | nil => intro _ _; trivial
    | cons env r ih =>
      intro hs hl
      obtain ⟨hk, ⟨L, o, hf, hn, ho, hd⟩, hr⟩ := hl
      have hL : L ∈ X.fs := hs L (by unfold frs; rw [List.filterMap_cons, hf]; exact List.mem_cons_self)
      obtain ⟨sl, e⟩ := I.base.slot L o ho (I.ok.frf L hL) hL fun z => I.ok.exfs L z hL
      exact ⟨hk, ⟨L, _, hf, hn, e, hd⟩, ih (fun b hb => hs b (by unfold frs; rw [List.filterMap_cons, hf]; exact List.mem_cons_of_mem _ hb)) hr⟩
  exact all X.outer (fun _ hb => hb) I.ok.funs
theorem Inv.stack (I : Inv X pins σ H s) : s.heap.FunFrames X.base X.stack := by
  rcases I.ok.stk with e | ⟨e, hf⟩
  · rw [e]; exact I.funs
  · rw [e]
    obtain ⟨m, hn, _⟩ := I.loc
    refine .cons (by rw [I.ok.kind]; decide) hf hn ?_ I.funs
    exact Heap.get?_none_of_le (Nat.le_trans I.ok.bsz I.ok.above)
theorem Inv.stkSub (I : Inv X pins σ H s) : ∀ b ∈ frs X.stack, b ∈ X.env.locals :: X.fs := fun b hb => by
  rcases I.ok.stk with e | ⟨e, hf⟩
  · rw [e] at hb; exact List.mem_cons_of_mem _ hb
  · rw [e] at hb
    unfold frs at hb
    rw [List.filterMap_cons, hf] at hb
    exact hb
theorem Inv.stkFree (I : Inv X pins σ H s) : ∀ b ∈ frs X.stack, H b = none := fun b hb => by
  rcases List.mem_cons.mp (I.stkSub b hb) with e | hb
  · rw [e]; exact I.free
  · obtain ⟨_, o, ho, _⟩ := I.ok.funs.mem hb
    exact I.base.free b o ho (I.ok.frf b hb) fun z => I.ok.exfs b z hb
theorem Inv.step {g' : Array GenState} {t' : Nat} {d' : Drawn} {ch : List Addr} (I : Inv X pins σ H s)
    (hch : ∀ b ∈ ch, (b ∈ X.ex ∨ X.s₀.heap.objs.size ≤ b) ∧ b ≠ X.env.locals ∧ (∀ x c, X.env.cells.lookup x = some c → c ≠ b) ∧ ∀ p ∈ X.pn ++ pins, p.1 ≠ b)
    (keep : ∀ b o, b ≠ X.env.locals → b ∉ X.fs → b ∉ ch → s.heap.get? b = some o → H b = none → h'.get? b = some o)
    (slot : ∀ b o, b ≠ X.env.locals → b ∈ X.fs → b ∉ ch → s.heap.get? b = some o → H b = none → ∃ sl, h'.get? b = some { o with slots := sl }) (free : ∀ b o, b ∉ ch → s.heap.get? b = some o → H b = none → H' b = none)
    (there : ∀ b o, b ∉ ch → s.heap.get? b = some o → ∃ o', h'.get? b = some o')
    (tups : ∀ b xs, H b = some (.tup xs) → H' b = some (.tup xs)) (frzs : ∀ b o u, H b = some (.frz o u) → H' b = some (.frz o u)) (tbls : ∀ b ps, H b = some (.tbl ps) → ∃ more, H' b = some (.tbl (ps ++ more)))
    (ns : ∀ m, s.heap.Ns X.env.locals m → h'.Ns X.env.locals m) (hok : HOk X.prog X.w H' h') (hg : AllBare g') :
    Inv X pins σ H' { s with heap := h', gens := g', drawn := d', toks := t' } := by
  have neL : ∀ b o, X.s₀.heap.get? b = some o → b ≠ X.env.locals := fun b o e => Nat.ne_of_lt (Nat.lt_of_lt_of_le (Heap.lt_size e) I.ok.above)
  have neC : ∀ b o, X.s₀.heap.get? b = some o → b ∉ X.ex → b ∉ ch := fun b o e hx hb => by
    rcases (hch b hb).1 with z | z
    · exact hx z
    · exact absurd (Nat.lt_of_lt_of_le (Heap.lt_size e) z) (Nat.lt_irrefl _)
  have cellK : ∀ x c, X.env.cells.lookup x = some c → ∀ v, s.heap.IsCell c v → h'.IsCell c v := fun x c e v ⟨o, ho, hd⟩ => by
    have nch : c ∉ ch := fun z => (hch c z).2.2.1 x c e rfl
    by_cases hc : c ∈ X.fs
    · obtain ⟨sl, q⟩ := slot c o (I.cne x c e) hc nch ho (I.freeC x c e)
      exact ⟨_, q, hd⟩
    · exact ⟨o, keep c o (I.cne x c e) hc nch ho (I.freeC x c e), hd⟩
  refine ⟨I.ok, I.os, hg, ⟨fun b o e n hb hx => ?_, fun b o e n hb hx => ?_, fun b o e n hx => ?_, fun b o e hx => ?_, fun b xs e => tups b xs (I.base.tups b xs e), fun b o xs e => frzs b o xs (I.base.frzs b o xs e), fun b ps e => ?_⟩, ?_, fun x c e => ?_, ?_, fun x c e => ?_, fun p hp => ?_, hok, I.len⟩
  · exact keep b o (neL b o e) hb (neC b o e hx) (I.base.keep b o e n hb hx) (I.base.free b o e n hx)
  · obtain ⟨sl, e1⟩ := I.base.slot b o e n hb hx
    obtain ⟨sl', e2⟩ := slot b _ (neL b o e) hb (neC b o e hx) e1 (I.base.free b o e n hx)
    exact ⟨sl', e2⟩
  · obtain ⟨o', e1⟩ := I.base.there b o e hx
    exact free b o' (neC b o e hx) e1 (I.base.free b o e n hx)
  · obtain ⟨o', e1⟩ := I.base.there b o e hx
    exact there b o' (neC b o e hx) e1
  · obtain ⟨m1, e1⟩ := I.base.tbls b ps e
    obtain ⟨m2, e2⟩ := tbls b _ e1
    exact ⟨m1 ++ m2, by rw [e2, Array.append_assoc]⟩
  · obtain ⟨m, hn, hl⟩ := I.loc
    refine ⟨m, ns m hn, fun i x v e1 e2 e3 => ?_⟩
    obtain ⟨u, r, l⟩ := hl i x v e1 e2 e3
    refine ⟨u, r, ?_⟩
    rcases l with l | ⟨k, c, e, z⟩
    · exact .inl l
    · exact .inr ⟨k, c, e, cellK x c e _ z⟩
  · obtain ⟨v, z⟩ := I.cell x c e
    exact ⟨v, cellK x c e v z⟩
  · obtain ⟨m, ⟨o, _, _, ho, _⟩, _⟩ := I.loc
    exact free _ o (fun z => (hch _ z).2.1 rfl) ho I.free
  · obtain ⟨v, o, ho, hd⟩ := I.cell x c e
    exact free c o (fun z => (hch c z).2.2.1 x c e rfl) ho (I.freeC x c e)
  · obtain ⟨e, n, ne, nf, d⟩ := I.pin p hp
    have nch : p.1 ∉ ch := fun z => (hch p.1 z).2.2.2 p hp rfl
    exact ⟨keep p.1 p.2 ne nf nch e n, free p.1 p.2 nch e n, ne, nf, d⟩
theorem Inv.un {t' : Nat} (I : Inv X pins σ H s) (u : Un X.fs [] H H' s.heap h') (hok : HOk X.prog X.w H' h') : Inv X pins σ H' { s with heap := h', toks := t' } := by
  obtain ⟨m, ⟨o, es, ep, ho, r⟩, _⟩ := id I.loc
  obtain ⟨sl, hL⟩ := u.any ho I.free (by simp)
  exact I.step (g' := s.gens) (d' := s.drawn) (ch := []) (fun _ z => nomatch z) (fun b o _ hb _ e n => u.keep b o e n hb (by simp)) (fun b o _ hb _ e n => u.slot b o e n hb (by simp)) (fun b o _ e n => u.free b o e n (by simp)) (fun b o _ e => u.there b o e (by simp)) u.tups u.frzs u.tbls (fun m' hm => by
    obtain ⟨o', es', ep', ho', r'⟩ := hm
    rw [ho] at ho'; cases ho'
    exact ⟨_, es', ep', hL, r'⟩) hok I.bare
theorem Inv.call {g' : Array GenState} {t' : Nat} {d' : Drawn} {ch : List Addr} (I : Inv X pins σ H s) (u : Un (frs X.stack) ch H H' s.heap h') (hok : HOk X.prog X.w H' h') (hg : AllBare g')
    (hch : ∀ b ∈ ch, (b ∈ X.ex ∨ X.s₀.heap.objs.size ≤ b) ∧ b ≠ X.env.locals ∧ (∀ x c, X.env.cells.lookup x = some c → c ≠ b) ∧ ∀ p ∈ X.pn ++ pins, p.1 ≠ b) :
    Inv X pins σ H' { s with heap := h', gens := g', drawn := d', toks := t' } := by
  obtain ⟨m, ⟨o, es, ep, ho, r⟩, _⟩ := id I.loc
  obtain ⟨sl, hL⟩ := u.any ho I.free fun z => (hch _ z).2.1 rfl
  exact I.step (ch := ch) hch (fun b o hL hb hc e n => u.keep b o e n (fun z => (List.mem_cons.mp (I.stkSub b z)).elim hL hb) hc) (fun b o _ _ hc e n => u.any e n hc) (fun b o hc e n => u.free b o e n hc) (fun b o hc e => u.there b o e hc) u.tups u.frzs u.tbls (fun m' hm => by
    obtain ⟨o', es', ep', ho', r'⟩ := hm
    rw [ho] at ho'; cases ho'
    exact ⟨_, es', ep', hL, r'⟩) hok hg
theorem Inv.turned {t' : Nat} {it : Addr} (I : Inv X pins σ H s) (k : ∀ b o, b ≠ it → s.heap.get? b = some o → h'.get? b = some o) (hn : H it = none) (hL : it ≠ X.env.locals)
    (h1 : it ∈ X.ex ∨ X.s₀.heap.objs.size ≤ it) (h2 : ∀ x c, X.env.cells.lookup x = some c → c ≠ it) (h3 : ∀ p ∈ X.pn ++ pins, p.1 ≠ it) : Inv X pins σ H { s with heap := h', toks := t' } := by
  have nit : ∀ b u, H b = some u → b ≠ it := fun b u e z => by rw [z, hn] at e; cases e
  refine I.step (g' := s.gens) (d' := s.drawn) (ch := [it]) (fun b hb => ?_) (fun b o _ _ hc e _ => k b o (fun z => hc (by simp [z])) e) (fun b o _ _ hc e _ => ⟨o.slots, k b o (fun z => hc (by simp [z])) e⟩) (fun _ _ _ _ n => n)
    (fun b o hc e => ⟨o, k b o (fun z => hc (by simp [z])) e⟩) (fun _ _ e => e) (fun _ _ _ e => e) (fun b ps e => ⟨#[], by rw [e]; simp⟩) (fun m hm => ?_) (fun b u e => ?_) I.bare
  · have e : b = it := by simpa using hb
    subst e
    exact ⟨h1, hL, h2, h3⟩
  · obtain ⟨o, es, ep, ho, r⟩ := hm
    exact ⟨o, es, ep, k _ o (Ne.symm hL) ho, r⟩
  · refine (I.hok b u e).stay (fun c v hc q => k c v ?_ q) (fun _ q => q) fun _ _ q => q
    rcases hc with z | z
    · rw [z]; exact nit b u e
    · exact nit c _ z
theorem Inv.tok (I : Inv X pins σ H s) (t : Nat) : Inv X pins σ H { s with toks := t } := I.un (h' := s.heap) (t' := t) Un.refl I.hok
theorem Inv.kept {t' : Nat} (I : Inv X pins σ H s) (k : ∀ b u, s.heap.get? b = some u → h'.get? b = some u) : Inv X pins σ H { s with heap := h', toks := t' } := I.un (Un.kept k) (I.hok.kept k)
theorem Inv.laid {a : Addr} {o : HO} {t' : Nat} (I : Inv X pins σ H s) (k : ∀ b u, s.heap.get? b = some u → h'.get? b = some u) (hp : s.heap.objs.size ≤ a) (new : ObjOk X.prog X.w (upd H a o) h' a o) :
    Inv X pins σ (upd H a o) { s with heap := h', toks := t' } := I.un (Un.laid k hp (I.hok.fresh hp)) (I.hok.laid k hp new)
theorem Inv.write {x e : Addr} {o : HO} {t' : Nat} (I : Inv X pins σ H s) (mu : Mut (H x)) (he : e = x ∨ H e = some (.own x)) (k : ∀ b u, b ≠ e → s.heap.get? b = some u → h'.get? b = some u) (heo : ∃ u, h'.get? e = some u)
    (new : ObjOk X.prog X.w (upd H x o) h' x o) : Inv X pins σ (upd H x o) { s with heap := h', toks := t' } := I.un (Un.write mu he k heo) (I.hok.write mu he k heo new)
theorem Inv.pins_of {pins' : List (Addr × Obj)} (I : Inv X pins σ H s) (h : ∀ p ∈ pins', s.heap.get? p.1 = some p.2 ∧ H p.1 = none ∧ p.1 ≠ X.env.locals ∧ p.1 ∉ X.fs ∧ ∀ v, p.2.data ≠ .cell v) : Inv X pins' σ H s :=
  ⟨I.ok, I.os, I.bare, I.base, I.loc, I.cell, I.free, I.freeC, fun p hp => (List.mem_append.mp hp).elim (fun z => I.pin p (List.mem_append_left _ z)) (h p), I.hok, I.len⟩
theorem nodup_ix {N : List Str} (hN : N.Nodup) {i j : Nat} {x : Str} (a : N[i]? = some x) (b : N[j]? = some x) : i = j := by
  obtain ⟨h1, e1⟩ := List.getElem?_eq_some_iff.mp a
  obtain ⟨h2, e2⟩ := List.getElem?_eq_some_iff.mp b
  exact (List.getElem_inj hN).mp (e1.trans e2.symm)
theorem store_ok2 {M : Model} {A : Around} {E : Value → Shared → Prop} {i : Nat} {x : Str} {v : V} {u : Value} {Q : Unit → Shared → Prop} (I : Inv X pins σ H s) (hN : X.N.Nodup) (hi : X.N[i]? = some x) (hx : Loc X.env.scope x) (r : RelV v u)
    (h : ∀ s', Inv X pins (σ.set i (some v)) H s' → (∃ a, Heap.SameBut a s.heap s'.heap ∧ (a = X.env.locals ∨ X.env.cells.lookup x = some a)) → Q () s') (hf : X.fn x = true ∨ X.env.scope.names.lookup x = some .local := by first | exact .inl rfl | exact .inr rfl | assumption) : wpAny M A (storeName X.env x u) Q E s := by
  obtain ⟨m, hn, hl⟩ := id I.loc
  have hcls : (X.env.scope.kind == .class || (X.env.scope.kind == .module && X.env.locals != X.env.globals)) = false := by rw [I.ok.kind]; rfl
  have hiσ : i < σ.length := by rw [I.len]; exact (List.getElem?_eq_some_iff.mp hi).1
  have cne := I.cne
  have tracked : ∀ {a : Addr} {h' : Heap}, (∃ o, s.heap.get? a = some o ∧ H a = none) → Heap.SameBut a s.heap h' → HOk X.prog X.w H h' := fun {a h'} ha hs b ob e => by
    obtain ⟨_, _, hfree⟩ := ha
    refine (I.hok b ob e).stay (fun c w' hc q => (hs.2 c ?_).trans q) (fun _ q => q) fun _ _ q => q
    rintro rfl
    rcases hc with rfl | hc
    · rw [hfree] at e; cases e
    · rw [hfree] at hc; cases hc
  rcases hx with hk | hk
  · refine wpAny_storeName_local hk hn (fun h' hn' hs => ?_) hcls
    obtain ⟨oL, _, _, hoL, _⟩ := id hn
    refine h _ ⟨I.ok, I.os, I.bare, ⟨fun b o e n hb hx => ?_, fun b o e n hb hx => ?_, I.base.free, fun b o e hx => ?_, I.base.tups, I.base.frzs, I.base.tbls⟩, ⟨_, hn', fun j y v' e1 e2 e3 => ?_⟩, fun y c e => ?_, I.free, I.freeC, fun p hp => ?_, tracked ⟨oL, hoL, I.free⟩ hs, by simpa using I.len⟩ ⟨_, hs, .inl rfl⟩
    · exact (hs.2 b (Nat.ne_of_lt (Nat.lt_of_lt_of_le (Heap.lt_size e) I.ok.above))).trans (I.base.keep b o e n hb hx)
    · obtain ⟨sl, e1⟩ := I.base.slot b o e n hb hx
      exact ⟨sl, (hs.2 b (Nat.ne_of_lt (Nat.lt_of_lt_of_le (Heap.lt_size e) I.ok.above))).trans e1⟩
    · obtain ⟨o', e1⟩ := I.base.there b o e hx
      exact ⟨o', (hs.2 b (Nat.ne_of_lt (Nat.lt_of_lt_of_le (Heap.lt_size e) I.ok.above))).trans e1⟩
    · by_cases hj : j = i
      · subst hj
        rw [hi] at e1; cases e1
        rw [List.getElem?_set_self hiσ] at e2
        cases e2
        exact ⟨u, r, .inl ⟨hk, by simp⟩⟩
      · rw [List.getElem?_set_ne (Ne.symm hj)] at e2
        obtain ⟨u', r', q⟩ := hl j y v' e1 e2 e3
        refine ⟨u', r', ?_⟩
        rcases q with ⟨k, e⟩ | ⟨k, c, e, z⟩
        · refine .inl ⟨k, ?_⟩
          have : y ≠ x := fun e => hj (nodup_ix hN e1 (e ▸ hi))
          simp [this, e]
        · exact .inr ⟨k, c, e, z.sameBut hs (cne y c e)⟩
    · obtain ⟨w', z⟩ := I.cell y c e
      exact ⟨w', z.sameBut hs (cne y c e)⟩
    · obtain ⟨e, n, ne, nf, d⟩ := I.pin p hp
      exact ⟨(hs.2 p.1 ne).trans e, n, ne, nf, d⟩
  · have hfn : X.fn x = true := by
      rcases hf with z | z
      · exact z
      · rw [z] at hk; cases hk
    obtain ⟨c, hc⟩ := I.ok.has x (.inl hk)
    obtain ⟨w', z⟩ := I.cell x c hc
    refine wpAny_storeName_cell I.ok.kind hk hc z (fun h' hc' hs => ?_)
    obtain ⟨oc, hoc, hocd⟩ := id z
    refine h { s with heap := h' } ⟨I.ok, I.os, I.bare, ⟨fun b o e n hb hx => ?_, fun b o e n hb hx => ?_, I.base.free, fun b o e hx => ?_, I.base.tups, I.base.frzs, I.base.tbls⟩, ⟨m, hn.sameBut hs (Ne.symm (cne x c hc)), fun j y v' e1 e2 e3 => ?_⟩, fun y c' e => ?_, I.free, I.freeC, fun p hp => ?_, tracked ⟨oc, hoc, I.freeC x c hc⟩ hs, by simpa using I.len⟩ ⟨c, hs, .inr hc⟩
    · exact (hs.2 b (Nat.ne_of_lt (Nat.lt_of_lt_of_le (Heap.lt_size e) (I.ok.cab x c hfn hc)))).trans (I.base.keep b o e n hb hx)
    · obtain ⟨sl, e1⟩ := I.base.slot b o e n hb hx
      exact ⟨sl, (hs.2 b (Nat.ne_of_lt (Nat.lt_of_lt_of_le (Heap.lt_size e) (I.ok.cab x c hfn hc)))).trans e1⟩
    · obtain ⟨o', e1⟩ := I.base.there b o e hx
      exact ⟨o', (hs.2 b (Nat.ne_of_lt (Nat.lt_of_lt_of_le (Heap.lt_size e) (I.ok.cab x c hfn hc)))).trans e1⟩
    · by_cases hj : j = i
      · subst hj
        rw [hi] at e1; cases e1
        rw [List.getElem?_set_self hiσ] at e2
        cases e2
        exact ⟨u, r, .inr ⟨.inl hk, c, hc, hc'⟩⟩
      · rw [List.getElem?_set_ne (Ne.symm hj)] at e2
        obtain ⟨u', r', q⟩ := hl j y v' e1 e2 e3
        refine ⟨u', r', ?_⟩
        rcases q with q | ⟨k, c', e, z'⟩
        · exact .inl q
        · refine .inr ⟨k, c', e, z'.sameBut hs ?_⟩
          rintro rfl
          exact hj (nodup_ix hN e1 (I.ok.inj _ _ _ e hc ▸ hi))
    · by_cases hcc : c' = c
      · subst hcc; exact ⟨_, hc'⟩
      · obtain ⟨w2, z2⟩ := I.cell y c' e
        exact ⟨w2, z2.sameBut hs hcc⟩
    · obtain ⟨e, n, ne, nf, d⟩ := I.pin p hp
      refine ⟨(hs.2 p.1 ?_).trans e, n, ne, nf, d⟩
      intro q
      rw [q, hoc] at e
      have q' : oc = p.2 := Option.some.inj e
      exact d w' (by rw [← q']; exact hocd)
theorem store_ok {M : Model} {A : Around} {E : Value → Shared → Prop} {i : Nat} {x : Str} {v : V} {u : Value} {Q : Unit → Shared → Prop} (I : Inv X pins σ H s) (hN : X.N.Nodup) (hi : X.N[i]? = some x) (hx : Loc X.env.scope x) (r : RelV v u)
    (h : ∀ s', Inv X pins (σ.set i (some v)) H s' → Q () s') (hf : X.fn x = true ∨ X.env.scope.names.lookup x = some .local := by first | exact .inl rfl | exact .inr rfl | assumption) : wpAny M A (storeName X.env x u) Q E s :=
  store_ok2 I hN hi hx r (fun s' I' _ => h s' I') hf
theorem Inv.call' {s' : Shared} {ch : List Addr} (I : Inv X pins σ H s) (ho : s'.os = s.os) (u : Un (frs X.stack) ch H H' s.heap s'.heap) (hok : HOk X.prog X.w H' s'.heap) (hg : AllBare s'.gens)
    (hch : ∀ b ∈ ch, (b ∈ X.ex ∨ X.s₀.heap.objs.size ≤ b) ∧ b ≠ X.env.locals ∧ (∀ x c, X.env.cells.lookup x = some c → c ≠ b) ∧ ∀ p ∈ X.pn ++ pins, p.1 ≠ b) : Inv X pins σ H' s' := by
  obtain ⟨h', g', d', t', o'⟩ := s'
  have e : o' = s.os := ho
  subst e
  exact I.call (g' := g') (t' := t') (d' := d') u hok hg hch
end
noncomputable abbrev XK := Value → Option Addr → Hp → Prop
noncomputable abbrev St := List (Option V)
noncomputable abbrev VK := V → Hp → Prop
noncomputable abbrev TE := St → Hp → VK → Prop
noncomputable abbrev TT := St → Hp → (Bool → Hp → Prop) → Prop
noncomputable abbrev TA := St → Hp → (List V → Hp → Prop) → Prop
structure Ends where
  nx : St → Hp → Prop
  rt : VK
  bk : St → Hp → Prop := fun _ _ => False
  ct : St → Hp → Prop := fun _ _ => False
noncomputable abbrev TS := Ends → St → Hp → Prop
noncomputable def EP (X : Cx) (pins : List (Addr × Obj)) (σ : St) (Q : VK) (u : Value) (s' : Shared) : Prop := ∃ v H', Inv X pins σ H' s' ∧ RelV v u ∧ Q v H'
noncomputable def TP (X : Cx) (pins : List (Addr × Obj)) (σ : St) (Q : Bool → Hp → Prop) (b : Bool) (s' : Shared) : Prop := ∃ H', Inv X pins σ H' s' ∧ Q b H'
noncomputable def AP (X : Cx) (pins : List (Addr × Obj)) (σ : St) (Q : List V → Hp → Prop) (us : List Value) (s' : Shared) : Prop := ∃ vs H', Inv X pins σ H' s' ∧ Vals vs us ∧ Q vs H'
noncomputable def SP (X : Cx) (pins : List (Addr × Obj)) (D : Ends) (f : Flow) (s' : Shared) : Prop :=
  match f with
  | .next => ∃ σ' H', Inv X pins σ' H' s' ∧ D.nx σ' H'
  | .brk => ∃ σ' H', Inv X pins σ' H' s' ∧ D.bk σ' H'
  | .cont => ∃ σ' H', Inv X pins σ' H' s' ∧ D.ct σ' H'
  | .ret u => ∃ v σ' H', Inv X pins σ' H' s' ∧ RelV v u ∧ D.rt v H'
noncomputable def PE (X : Cx) (e : Expr) (t : TE) : Prop :=
  ∀ (pins : List (Addr × Obj)) (s : Shared) (σ : St) (H : Hp) (Q : VK), Inv X pins σ H s → t σ H Q → wpAny (model X.prog X.w) X.A (eval e X.env) (EP X pins σ Q) X.xe s
noncomputable def PT (X : Cx) (e : Expr) (t : TT) : Prop :=
  ∀ (pins : List (Addr × Obj)) (s : Shared) (σ : St) (H : Hp) (Q : Bool → Hp → Prop), Inv X pins σ H s → t σ H Q → wpAny (model X.prog X.w) X.A (isTrue e X.env (eval e X.env)) (TP X pins σ Q) X.xe s
noncomputable def PW (X : Cx) (e : Expr) (t : TT) : Prop :=
  ∀ (whole : Sem Value) (pins : List (Addr × Obj)) (s : Shared) (σ : St) (H : Hp) (Q : Bool → Hp → Prop), Inv X pins σ H s → t σ H Q → wpAny (model X.prog X.w) X.A (isTrue e X.env whole) (TP X pins σ Q) X.xe s
theorem PW.pt {X : Cx} {e : Expr} {t : TT} (h : PW X e t) : PT X e t := h _
noncomputable def PA (X : Cx) (es : List Expr) (t : TA) : Prop :=
  ∀ (pos : Pos) (pins : List (Addr × Obj)) (s : Shared) (σ : St) (H : Hp) (Q : List V → Hp → Prop), Inv X pins σ H s → t σ H Q → wpAny (model X.prog X.w) X.A (spliced (backTo pos (starEach es X.env))) (AP X pins σ Q) X.xe s
noncomputable def PS (X : Cx) (st : Stmt) (t : TS) : Prop :=
  ∀ (pins : List (Addr × Obj)) (s : Shared) (σ : St) (H : Hp) (D : Ends), Inv X pins σ H s → t D σ H → wpAny (model X.prog X.w) X.A (exec st X.env) (SP X pins D) X.xe s
noncomputable def PSs (X : Cx) (st : List Stmt) (t : TS) : Prop :=
  ∀ (pins : List (Addr × Obj)) (s : Shared) (σ : St) (H : Hp) (D : Ends), Inv X pins σ H s → t D σ H → wpAny (model X.prog X.w) X.A (execs st X.env) (SP X pins D) X.xe s
theorem thn {α : Type} {t : Sem α} {Q Q' : α → Shared → Prop} {M : Model} {A : Around} {E : Value → Shared → Prop} {s : Shared} (h : wpAny M A t Q E s) (hQ : ∀ a s, Q a s → Q' a s) : wpAny M A t Q' E s := wpAny_mono h hQ fun _ _ x => x
end L2
namespace L2
open PySem PySem.Spec PyProof.Rows
section
variable {X : Cx}
noncomputable def tVar (i : Nat) : TE := fun σ H Q => ∃ v, σ[i]? = some (some v) ∧ Q v H
noncomputable def tC (v : V) : TE := fun _ H Q => Q v H
theorem pe_var {i : Nat} {x : Str} {pos : Pos} (hN : X.N[i]? = some x) (hv : Vis X.env.scope x) (hd : (x == ("__debug__" : Str)) = false := by decide) (hcd : (x == ("__classdict__" : Str)) = false := by decide) : PE X (.Name x pos) (tVar i) := by
  intro pins s σ H Q I h
  obtain ⟨v, e, h⟩ := h
  obtain ⟨m, hn, hl⟩ := I.loc
  obtain ⟨u, r, l⟩ := hl i x v hN e hv
  have fin : EP X pins σ Q u s := ⟨v, H, I, r, h⟩
  rcases l with ⟨hk, hm⟩ | ⟨hk, c, hc, hcell⟩
  · exact wpAny_Name (wpAny_loadName_local I.ok.kind hk hn hm fin) hd
  · rcases hk with hk | hk
    · exact wpAny_Name (wpAny_loadName_cell I.ok.kind hk hc hcell fin) hd
    · exact wpAny_Name (wpAny_loadName_free I.ok.kind hk hc hcell fin hcd) hd
theorem pe_int {i j pos} : PE X (.Constant (.int i) j pos) (tC (.int i)) := fun _ _ _ H _ I h => wpAny_Constant_int ⟨.int i, H, I.tok _, ⟨_, rfl⟩, h⟩
theorem pe_bl {b j pos} : PE X (.Constant (.bool b) j pos) (tC (.bl b)) := fun _ _ _ H _ I h => Constant_bool ⟨.bl b, H, I, rfl, h⟩
theorem pe_str {x j pos} : PE X (.Constant (.str x) j pos) (tC (.str x)) := fun _ _ _ H _ I h => Calls.Constant_str ⟨.str x, H, I.tok _, ⟨_, rfl⟩, h⟩
noncomputable def Gl (X : Cx) (x : Str) : Prop := X.env.kindOf x = some .globalImplicit
theorem ld_glob {E : Value → Shared → Prop} {pins : List (Addr × Obj)} {s : Shared} {σ : St} {H : Hp} {x : Str} {u : Value} {pos : Pos} {Q : Value → Shared → Prop} (I : Inv X pins σ H s) (hg : Gl X x) (hm : X.mg x = some u) (h : Q u s)
    (hd : (x == ("__debug__" : Str)) = false := by decide) : wpAny (model X.prog X.w) X.A (eval (.Name x pos) X.env) Q E s :=
  Calls.Name_function_global I.ok.kind hg (Calls.loadGlobal_global (by rw [I.ok.glob]; exact I.mod.glob.keeps I.bk) hm h) hd
theorem ld_blt {E : Value → Shared → Prop} {pins : List (Addr × Obj)} {s : Shared} {σ : St} {H : Hp} {x : Str} {u : Value} {pos : Pos} {Q : Value → Shared → Prop} (I : Inv X pins σ H s) (hg : Gl X x) (hm : X.mg x = none) (hv : bootBuiltins x = some u) (h : Q u s)
    (hn : x ≠ "__name__" := by decide) (hd : (x == ("__debug__" : Str)) = false := by decide) : wpAny (model X.prog X.w) X.A (eval (.Name x pos) X.env) Q E s := by
  obtain ⟨mb, h1, h2⟩ := I.mod.blt
  exact Calls.Name_function_global I.ok.kind hg (Calls.loadGlobal_builtin (by rw [I.ok.glob]; exact I.mod.glob.keeps I.bk) hm (by rw [I.ok.blt]; exact h1.keeps I.bk) ((h2 x hn).trans hv) h) hd
theorem pe_bltn {x : Str} {v : V} {u : Value} {pos : Pos} (hg : Gl X x) (hm : X.mg x = none) (hv : bootBuiltins x = some u) (r : RelV v u) (hn : x ≠ "__name__" := by decide) (hd : (x == ("__debug__" : Str)) = false := by decide) : PE X (.Name x pos) (tC v) :=
  fun _ _ _ H _ I h => ld_blt I hg hm hv ⟨v, H, I, r, h⟩ hn hd
variable {a b : Expr} {ta tb : TE} {pos : Pos}
noncomputable def tB (t : TE) : TT := fun σ H Q => t σ H fun x H1 => ∃ c, x = .bl c ∧ Q c H1
theorem pt_val {e : Expr} {t : TE} (h : PE X e t) (he : ∀ whole, isTrue e X.env whole = (do let v ← whole; standAt e.pos; holding [v] (truthy v)) := by intro _; rfl) : PT X e (tB t) := by
  intro pins s σ H Q I hw
  refine isTrue_plain (thn (h pins s σ H _ I hw) fun v s1 ⟨x, H1, I1, r1, q1⟩ => ?_) (he _)
  obtain ⟨d, rfl, q⟩ := q1
  cases r1
  exact wpAny_truthy_bool ⟨H1, I1, q⟩
variable {tA tB' : TT} {rest : List Expr}
noncomputable def tOr (t u : TT) : TT := fun σ H Q => t σ H fun c H1 => if c = true then Q true H1 else u σ H1 Q
noncomputable def tNot (t : TT) : TT := fun σ H Q => t σ H fun c H1 => Q (!c) H1
theorem pw_or1 (ha : PT X a tA) : PW X (.BoolOp .Or [a] pos) tA := by
  intro wh pins s σ H Q I h
  refine isTrue_or (thn (ha pins s σ H Q I h) fun c s1 e => ?_)
  cases c with
  | false => exact isTrue_or_nil e
  | true => exact e
theorem pw_or (ha : PT X a tA) (hb : PW X (.BoolOp .Or (b :: rest) pos) tB') : PW X (.BoolOp .Or (a :: b :: rest) pos) (tOr tA tB') := by
  intro wh pins s σ H Q I h
  refine isTrue_or (thn (ha pins s σ H _ I h) fun c s1 ⟨H1, I1, q1⟩ => ?_)
  cases c with
  | true => exact ⟨H1, I1, q1⟩
  | false => exact hb wh pins s1 σ H1 Q I1 q1
theorem pt_not (ha : PT X a tA) : PT X (.UnaryOp .Not a pos) (tNot tA) := by
  intro pins s σ H Q I h
  exact isTrue_not (ha pins s σ H (fun c H1 => Q (!c) H1) I h)
noncomputable def tAndV (ta tb : TE) : TE := fun σ H Q => ta σ H fun x H1 => ∃ c, x = .bl c ∧ if c = true then tb σ H1 Q else Q (.bl false) H1
noncomputable def tNotV (ta : TE) : TE := fun σ H Q => ta σ H fun x H1 => ∃ c, x = .bl c ∧ Q (.bl (!c)) H1
theorem pe_one {op} {t : TE} (h : PE X a t) : PE X (.BoolOp op [a] pos) t := fun pins s σ H Q I hw => BoolOp_one (h pins s σ H Q I hw)
theorem pe_and (ha : PE X a ta) (hb : PE X (.BoolOp .And (b :: rest) pos) tb) : PE X (.BoolOp .And (a :: b :: rest) pos) (tAndV ta tb) := by
  intro pins s σ H Q I h
  refine BoolOp_and (thn (ha pins s σ H _ I h) fun v s1 ⟨x, H1, I1, r1, q1⟩ => ?_)
  obtain ⟨c, rfl, q1⟩ := q1
  cases r1
  refine wpAny_truthy_bool ?_
  cases c with
  | true => exact hb pins s1 σ H1 Q I1 q1
  | false => exact ⟨.bl false, H1, I1, rfl, q1⟩
theorem pe_not (ha : PE X a ta) : PE X (.UnaryOp .Not a pos) (tNotV ta) := by
  intro pins s σ H Q I h
  refine UnaryOp_ (thn (ha pins s σ H _ I h) fun v s1 ⟨x, H1, I1, r1, q1⟩ => ?_)
  obtain ⟨c, rfl, q1⟩ := q1
  cases r1
  exact not_of (wpAny_truthy_bool ⟨.bl (!c), H1, I1, rfl, q1⟩)
end
end L2
namespace L2
open PySem PySem.Spec PyProof.Rows
noncomputable def SqL (K : PySem.W.Frag) (H : Hp) (a : Addr) (xs : List V) : Prop :=
  Rd H a (.lst xs) ∨
    ∃ (o : Obj) (its : Array Value) (n : Nat), K.lookup a = some o ∧ o.cls = .type "list" ∧ o.dict = none ∧ o.data = .seq its n ∧ its.size ≤ sizeLine ∧ Vals xs its.toList
noncomputable def SqT (K : PySem.W.Frag) (H : Hp) (a : Addr) (xs : List V) : Prop :=
  Rd H a (.tup xs) ∨
    ∃ (o : Obj) (its : Array Value) (n : Nat), K.lookup a = some o ∧ o.cls = .type "tuple" ∧ o.data = .seq its n ∧ its.size ≤ sizeLine ∧ Vals xs its.toList
noncomputable def absV : Value → Option V
  | .none => some .non
  | .bool b => some (.bl b)
  | .int i _ => some (.int i)
  | .str x _ => some (.str x)
  | .bytes b _ => some (.byt b)
  | .float b _ => some (.flt b)
  | .ref a => some (.ref a)
  | .type n => some (.ty n)
  | _ => none
theorem RelV.abs {x : V} {u : Value} (r : RelV x u) : absV u = some x := by
  cases x with
  | non => cases r; rfl
  | bl _ => cases r; rfl
  | int _ => obtain ⟨t, rfl⟩ := r; rfl
  | str _ => obtain ⟨t, rfl⟩ := r; rfl
  | byt _ => obtain ⟨t, rfl⟩ := r; rfl
  | flt _ => obtain ⟨t, rfl⟩ := r; rfl
  | ref _ => cases r; rfl
  | ty _ => cases r; rfl
theorem RelV.inj {x y : V} {u : Value} (r : RelV x u) (q : RelV y u) : x = y := Option.some.inj (r.abs.symm.trans q.abs)
theorem Vals.inj : ∀ {xs ys : List V} {us : List Value}, Vals xs us → Vals ys us → xs = ys
  | _, _, _, .nil, .nil => rfl
  | _, _, _, .cons r t, .cons r' t' => by rw [r.inj r', Vals.inj t t']
section
variable {X : Cx} {pins : List (Addr × Obj)} {σ : St} {H : Hp} {s : Shared} {a : Addr} {xs ys : List V}
theorem SqL.of {K : PySem.W.Frag} (h : H a = some (.lst xs)) : SqL K H a xs := .inl (.inl h)
theorem SqT.of {K : PySem.W.Frag} (h : H a = some (.tup xs)) : SqT K H a xs := .inl (.inl h)
theorem Inv.list (I : Inv X pins σ H s) (h : SqL X.K H a xs) : ∃ its : List Value, Vals xs its ∧ PlainL s.heap a its.toArray ∧ xs.length ≤ sizeLine := by
  rcases h with h | ⟨o, its, n, hk, hc, hd, hs, hz, r⟩
  · obtain ⟨z, its, n, r, e⟩ := h.ok I.hok
    exact ⟨its, r, ⟨_, n, e, rfl, rfl, rfl⟩, z⟩
  · refine ⟨its.toList, r, ⟨o, n, I.kIn a o hk, hc, hd, by simpa using hs⟩, ?_⟩
    have e := r.length
    simp only [Array.length_toList] at e
    omega
theorem Inv.tuple (I : Inv X pins σ H s) (h : SqT X.K H a xs) : ∃ its : List Value, Vals xs its ∧ IsTup s.heap a its.toArray ∧ xs.length ≤ sizeLine := by
  rcases h with h | ⟨o, its, n, hk, hc, hs, hz, r⟩
  · obtain ⟨z, its, r, p⟩ := h.ok I.hok
    exact ⟨its, r, p, z⟩
  · refine ⟨its.toList, r, ⟨o, I.kIn a o hk, hc, n, by simpa using hs⟩, ?_⟩
    have e := r.length
    simp only [Array.length_toList] at e
    omega
theorem Inv.list_inj (I : Inv X pins σ H s) (h : SqL X.K H a xs) (h' : SqL X.K H a ys) : xs = ys := by
  obtain ⟨its, r, ⟨o, n, e, _, _, d⟩, _⟩ := I.list h
  obtain ⟨its', r', ⟨o', n', e', _, _, d'⟩, _⟩ := I.list h'
  rw [e] at e'; cases e'
  rw [d] at d'
  injection d' with d1 _
  have : its = its' := by simpa using congrArg Array.toList d1
  subst this
  exact r.inj r'
end
noncomputable abbrev Cx.wish (X : Cx) (E : Value → Shared → Prop) : Cx := { X with xe := E }
noncomputable abbrev Cx.nox (X : Cx) : Cx := X.wish fun _ _ => False
theorem Cx.Ok.wish {X : Cx} (ok : X.Ok) (E : Value → Shared → Prop) : (X.wish E).Ok :=
  ⟨ok.mod, ok.kind, ok.glob, ok.blt, ok.above, ok.inj, ok.has, ok.cab, ok.hd, ok.frames, ok.stk, ok.exf, ok.bs, ok.bsz, ok.noex, ok.exfs, ok.funs, ok.frf⟩
theorem Cx.Ok.unwish {X : Cx} {E : Value → Shared → Prop} (ok : (X.wish E).Ok) : X.Ok :=
  ⟨ok.mod, ok.kind, ok.glob, ok.blt, ok.above, ok.inj, ok.has, ok.cab, ok.hd, ok.frames, ok.stk, ok.exf, ok.bs, ok.bsz, ok.noex, ok.exfs, ok.funs, ok.frf⟩
section
variable {X : Cx} {pins : List (Addr × Obj)} {σ : St} {H : Hp} {s : Shared} {E : Value → Shared → Prop}
theorem Inv.wish (I : Inv X pins σ H s) (E : Value → Shared → Prop) : Inv (X.wish E) pins σ H s := ⟨I.ok.wish E, I.os, I.bare, I.base, I.loc, I.cell, I.free, I.freeC, I.pin, I.hok, I.len⟩
theorem Inv.unwish (I : Inv (X.wish E) pins σ H s) : Inv X pins σ H s := ⟨I.ok.unwish, I.os, I.bare, I.base, I.loc, I.cell, I.free, I.freeC, I.pin, I.hok, I.len⟩
theorem SP.unwish {D : Ends} {f : Flow} {s' : Shared} (h : SP (X.wish E) pins D f s') : SP X pins D f s' := by
  cases f with
  | next => obtain ⟨σ', H', I, q⟩ := h; exact ⟨σ', H', I.unwish, q⟩
  | brk => obtain ⟨σ', H', I, q⟩ := h; exact ⟨σ', H', I.unwish, q⟩
  | cont => obtain ⟨σ', H', I, q⟩ := h; exact ⟨σ', H', I.unwish, q⟩
  | ret u => obtain ⟨v, σ', H', I, r, q⟩ := h; exact ⟨v, σ', H', I.unwish, r, q⟩
theorem PE.nox {e : Expr} {t : TE} (h : PE X.nox e t) : PE X e t := fun pins s σ H Q I hw =>
  wpAny_mono (h pins s σ H Q (I.wish _) hw) (fun _ _ ⟨v, H', I', r, q⟩ => ⟨v, H', I'.unwish, r, q⟩) fun _ _ z => False.elim z
theorem PT.nox {e : Expr} {t : TT} (h : PT X.nox e t) : PT X e t := fun pins s σ H Q I hw =>
  wpAny_mono (h pins s σ H Q (I.wish _) hw) (fun _ _ ⟨H', I', q⟩ => ⟨H', I'.unwish, q⟩) fun _ _ z => False.elim z
theorem PSs.nox {st : List Stmt} {t : TS} (h : PSs X.nox st t) : PSs X st t := fun pins s σ H D I hw =>
  wpAny_mono (h pins s σ H D (I.wish _) hw) (fun _ _ q => q.unwish) fun _ _ z => False.elim z
end
section
variable {X : Cx} {st : Stmt} {rest : List Stmt} {t u : TS} {e : Expr} {te : TE} {pos : Pos}
noncomputable def tNext : TS := fun D σ H => D.nx σ H
noncomputable def tSeq (t u : TS) : TS := fun D σ H => t { D with nx := u D } σ H
theorem pss_nil : PSs X [] tNext := fun _ _ σ H _ I h => wpAny_execs_nil ⟨σ, H, I, h⟩
theorem pss_cons (h1 : PS X st t) (h2 : PSs X rest u) : PSs X (st :: rest) (tSeq t u) := by
  intro pins s σ H D I h
  refine wpAny_execs_cons (thn (h1 pins s σ H { D with nx := u D } I h) fun f s1 q => ?_)
  cases f with
  | next =>
    obtain ⟨σ', H', I', q⟩ := q
    exact h2 pins s1 σ' H' D I' q
  | ret v => exact q
  | brk => exact q
  | cont => exact q
theorem pss_one (h1 : PS X st t) : PSs X [st] t := by
  intro pins s σ H D I h
  refine wpAny_execs_cons (thn (h1 pins s σ H D I h) fun f s1 q => ?_)
  cases f with
  | next => exact wpAny_execs_nil q
  | ret v => exact q
  | brk => exact q
  | cont => exact q
theorem Inv.quiet {pins : List (Addr × Obj)} {σ : St} {H : Hp} {s : Shared} (I : Inv X pins σ H s) : interactive X.env = false := by simp [interactive, I.ok.kind]
noncomputable def tDrop (te : TE) : TS := fun D σ H => te σ H fun _ H1 => D.nx σ H1
theorem ps_expr (he : PE X e te) (hs : swapsWith e none pos.line X.env = pure false := by rfl) : PS X (.Expr e pos) (tDrop te) := by
  intro pins s σ H D I h
  exact wpAny_Expr_any (thn (he pins s σ H _ I h) fun v s1 ⟨x, H1, I1, r1, q1⟩ => ⟨σ, H1, I1, q1⟩) I.quiet hs
noncomputable def tRet (te : TE) : TS := fun D σ H => te σ H D.rt
theorem ps_ret (he : PE X e te) : PS X (.Return (some e) pos) (tRet te) := by
  intro pins s σ H D I h
  exact wpAny_Return_some (thn (he pins s σ H _ I h) fun v s1 ⟨x, H1, I1, r1, q1⟩ => ⟨x, σ, H1, I1, r1, q1⟩)
noncomputable def tIfS (c : TT) (t u : TS) : TS := fun D σ H => c σ H fun b H1 => if b = true then t D σ H1 else u D σ H1
theorem ps_if {c : Expr} {a b : List Stmt} {tc : TT} (hc : PT X c tc) (ha : PSs X a t) (hb : PSs X b u) : PS X (.If c a b pos) (tIfS tc t u) := by
  intro pins s σ H D I h
  refine wpAny_If (thn (hc pins s σ H _ I h) fun d s1 ⟨H1, I1, q1⟩ => ?_)
  cases d with
  | true => exact ha pins s1 σ H1 D I1 q1
  | false => exact hb pins s1 σ H1 D I1 q1
end
noncomputable abbrev TG := V → St → Hp → (St → Hp → Prop) → Prop
noncomputable def PG (X : Cx) (target : Expr) (t : TG) : Prop :=
  ∀ (pins : List (Addr × Obj)) (s : Shared) (σ : St) (H : Hp) (v : V) (u : Value) (Q : St → Hp → Prop), Inv X pins σ H s → RelV v u → t v σ H Q →
    wpAny (model X.prog X.w) X.A (assign target X.env u) (fun _ s' => ∃ σ' H', Inv X pins σ' H' s' ∧ Q σ' H') X.xe s
section
variable {X : Cx} {pos : Pos}
noncomputable def gName (i : Nat) : TG := fun v σ H Q => Q (σ.set i (some v)) H
theorem pg_name {i : Nat} {x : Str} (hN : X.N.Nodup) (hi : X.N[i]? = some x) (hx : Loc X.env.scope x) (hf : X.fn x = true ∨ X.env.scope.names.lookup x = some .local := by first | exact .inl rfl | exact .inr rfl | assumption) : PG X (.Name x pos) (gName i) := by
  intro pins s σ H v u Q I r h
  exact wpAny_assign_Name (store_ok I hN hi hx r (fun s' I' => ⟨_, H, I', h⟩) hf)
noncomputable def tAsg (te : TE) (g : TG) : TS := fun D σ H => te σ H fun x H1 => g x σ H1 D.nx
theorem ps_set {i : Nat} {x : Str} {e : Expr} {te : TE} {pos' : Pos} (hN : X.N.Nodup) (hi : X.N[i]? = some x) (hx : Loc X.env.scope x) (he : PE X e te) (hs : swapsWith e (some (.Name x pos')) pos.line X.env = pure false := by rfl) (hf : X.fn x = true ∨ X.env.scope.names.lookup x = some .local := by first | exact .inl rfl | exact .inr rfl | assumption) :
    PS X (.Assign [.Name x pos'] e pos) (tAsg te (gName i)) := by
  intro pins s σ H D I h
  refine wpAny_Assign_Name (thn (he pins s σ H _ I h) fun v s1 ⟨y, H1, I1, r1, q1⟩ => ?_) hs
  exact store_ok I1 hN hi hx r1 (fun s2 I2 => ⟨_, H1, I2, q1⟩) hf
noncomputable def tPar (i j : Nat) (ta : TA) : TS := fun D σ H => ta σ H fun vs H1 => ∃ v w, vs = [v, w] ∧ D.nx ((σ.set i (some v)).set j (some w)) H1
theorem ps_par {i j : Nat} {x y : Str} {a b : Expr} {ta : TA} {px py pt : Pos} {kt k2 pt2} (hc : X.calm = true) (hN : X.N.Nodup) (hi : X.N[i]? = some x) (hj : X.N[j]? = some y) (hij : i ≠ j)
    (hx : X.env.scope.names.lookup x = some .local) (hy : X.env.scope.names.lookup y = some .local) (ha : PA X [a, b] ta)
    (hw : swappedStores [.Tuple [.Name x px, .Name y py] kt pt] (.Tuple [a, b] k2 pt2) X.env = pure (some [x, y]))
    (hs : swapsWithSole [.Tuple [.Name x px, .Name y py] kt pt] (.Tuple [a, b] k2 pt2) pos.line X.env = pure false := by rfl) :
    PS X (.Assign [.Tuple [.Name x px, .Name y py] kt pt] (.Tuple [a, b] k2 pt2) pos) (tPar i j ta) := by
  intro pins s σ H D I h
  rw [exec_Assign_arm]
  refine wpAny_bind (wpAny_standAt ?_)
  rw [hs]
  refine wpAny_bind (wpAny_pure ?_)
  rw [if_neg (by decide)]
  refine wpAny_bind (Tuple_ (thn (ha _ pins s σ H _ I h) fun us s1 ⟨vs, H1, I1, r1, q1⟩ => ?_))
  obtain ⟨v, w, e1, q1⟩ := q1
  subst e1
  obtain ⟨u1, u2, rfl, rv, rw'⟩ : ∃ u1 u2, us = [u1, u2] ∧ RelV v u1 ∧ RelV w u2 := by
    cases r1 with
    | cons p q =>
      cases q with
      | cons p' q' =>
        cases q'
        exact ⟨_, _, rfl, p, p'⟩
  refine wpAny_newObj_type ?_ (by show 2 ≤ sizeLine; decide)
  have I2 : Inv X pins σ H1 { s1 with heap := s1.heap.push { cls := .type "tuple", data := .seq [u1, u2].toArray } } := I1.kept (t' := s1.toks) fun b o e => Heap.get?_push_of_some _ e
  rw [hw]
  refine wpAny_bind (wpAny_pure ?_)
  show wpAny (model X.prog X.w) X.A (do rule "assign.swapped-stores"; let items ← unpackItems (.ref s1.heap.objs.size) 2 none; assignInOrder [fun v => bindName X.env y v, fun v => bindName X.env x v] items.reverse; pure Flow.next) _ _ _
  refine wpAny_bind (wpAny_rule (wpAny_bind (unpackItems_tuple (items := #[u1, u2]) (I.ok.hd hc) (IsTup.new s1.heap _) fun h' hx' => ?_)))
  have I3 := I2.kept (h' := h') (t' := s1.toks) fun b o e => hx' b o (Nat.ne_of_lt (Heap.lt_size e)) e
  show wpAny _ _ (assignInOrder [fun v => bindName X.env y v, fun v => bindName X.env x v] [u2, u1] >>= fun _ => pure Flow.next) _ _ _
  refine wpAny_bind (assignInOrder_cons (wpAny_bindName (store_ok I3 hN hj (.inl hy) rw' (fun s2 I4 => ?_) (.inr hy))))
  refine assignInOrder_cons (wpAny_bindName (store_ok I4 hN hi (.inl hx) rv (fun s3 I5 => assignInOrder_nil (wpAny_pure ?_)) (.inr hx)))
  rw [List.set_comm _ _ (Ne.symm hij)] at I5
  exact ⟨_, H1, I5, q1⟩
end
section
variable {X : Cx} {pos : Pos}
noncomputable def tWhile (c : TT) (tb : TS) : TS := fun D σ H => ∃ W : Nat → St → Hp → Prop, (∃ m, W m σ H) ∧ ∀ m σ H, W m σ H →
  c σ H fun b H1 => if b = true then ∃ N : St → Hp → Prop, (∀ σ' H', N σ' H' → ∃ m', m' < m ∧ W m' σ' H') ∧ tb { D with nx := N, ct := N, bk := D.nx } σ H1 else D.nx σ H1
theorem ps_while {c : Expr} {body : List Stmt} {tc : TT} {tb : TS} (hp : PassesOwn (model X.prog X.w) X.A X.env X.xe) (hc : PT X c tc) (hb : PSs X body tb) : PS X (.While c body [] pos) (tWhile tc tb) := by
  intro pins s σ H D I h
  obtain ⟨W, ⟨m0, w0⟩, turn⟩ := h
  refine wpAny_While (codeAny_whileLoop (fun n s' => ∃ σ' H', Inv X pins σ' H' s' ∧ W n σ' H') ?_ m0 ⟨σ, H, I, w0⟩)
  rintro n s1 ⟨σ1, H1, I1, w1⟩
  refine wpAny_passesOwn hp (thn (hc pins s1 σ1 H1 _ I1 (turn n σ1 H1 w1)) fun b s2 ⟨H2, I2, q2⟩ => ?_)
  cases b with
  | true =>
    obtain ⟨N, hN, q2⟩ := q2
    rw [if_pos rfl]
    refine wpAny_passesOwn hp (thn (hb pins s2 σ1 H2 _ I2 q2) fun f s3 q3 => ?_)
    cases f with
    | next =>
      obtain ⟨σ3, H3, I3, n3⟩ := q3
      obtain ⟨m', hm, w3⟩ := hN σ3 H3 n3
      exact ⟨m', hm, σ3, H3, I3, w3⟩
    | cont =>
      obtain ⟨σ3, H3, I3, n3⟩ := q3
      obtain ⟨m', hm, w3⟩ := hN σ3 H3 n3
      exact ⟨m', hm, σ3, H3, I3, w3⟩
    | brk => exact q3
    | ret v => exact q3
  | false =>
    rw [if_neg Bool.false_ne_true]
    exact wpAny_execs_nil ⟨σ1, H2, I2, q2⟩
end
structure It where
  go : Nat → Hp → Prop
  yld : Nat → Hp → V → Hp → Prop
  stop : Nat → Hp → Prop
noncomputable def FpOk (X : Cx) (pins : List (Addr × Obj)) (H : Hp) (b : Addr) : Prop :=
  H b = none ∧ b ≠ X.env.locals ∧ b ∉ X.fs ∧ (b ∈ X.ex ∨ X.s₀.heap.objs.size ≤ b) ∧ (∀ x c, X.env.cells.lookup x = some c → c ≠ b) ∧ ∀ p ∈ X.pn ++ pins, p.1 ≠ b
theorem Inv.fpOk {X : Cx} {pins : List (Addr × Obj)} {σ : St} {H H' : Hp} {s : Shared} {b : Addr} (I : Inv X pins σ H s) (hb : s.heap.objs.size ≤ b) (hn : H' b = none) : FpOk X pins H' b := by
  refine ⟨hn, Nat.ne_of_gt (Nat.lt_of_lt_of_le I.lt hb), I.nofs hb, .inr (Nat.le_trans I.sz hb), fun x c e z => ?_, fun p hp z => ?_⟩
  · obtain ⟨v, q⟩ := I.cell x c e
    exact absurd (Nat.lt_of_lt_of_le q.lt (by rw [z]; exact hb)) (Nat.lt_irrefl _)
  · exact absurd (Nat.lt_of_lt_of_le (Heap.lt_size (I.pin p hp).1) (by rw [z]; exact hb)) (Nat.lt_irrefl _)
structure Turn (P : Program) (w : World) (K : PySem.W.Frag) (tg : Expr) (J : It) (fp : List Addr) (it : Addr) (tn : Nat → Heap → Prop) : Prop where
  mem : it ∈ fp
  obj : ∀ i h, tn i h → ∀ b ∈ fp, ∃ o, h.get? b = some o ∧ ∀ v, o.data ≠ .cell v
  keep : ∀ i h h', tn i h → (∀ b ∈ fp, ∀ o, h.get? b = some o → h'.get? b = some o) → tn i h'
  item : ∀ (X : Cx), X.prog = P → X.w = w → X.K = K → X.calm = true → ∀ (i : Nat) (pins : List (Addr × Obj)) (s : Shared) (σ : St) (H : Hp) (E : Value → Shared → Prop), Inv X pins σ H s → (∀ b ∈ fp, FpOk X pins H b) → tn i s.heap → J.go i H →
    wpAny (model P w) X.A (pyNext (.ref it)) (fun r s1 => ∃ u, r = some u ∧
      wpAny (model P w) X.A (letOwnedTupleGo tg (.ref it) u) (fun _ s2 => ∃ x H', Inv X pins σ H' s2 ∧ RelV x u ∧ J.yld i H x H' ∧ tn (i + 1) s2.heap ∧ ∀ b ∈ fp, H' b = none) E s1) E s
  done : ∀ (X : Cx), X.prog = P → X.w = w → X.K = K → X.calm = true → ∀ (i : Nat) (pins : List (Addr × Obj)) (s : Shared) (σ : St) (H : Hp) (E : Value → Shared → Prop), Inv X pins σ H s → (∀ b ∈ fp, FpOk X pins H b) → tn i s.heap → J.stop i H →
    wpAny (model P w) X.A (pyNext (.ref it)) (fun r s1 => r = none ∧ Inv X pins σ H s1) E s
  self : ∀ (A : Around) (i : Nat) (s : Shared) (Q : Value → Shared → Prop) (E : Value → Shared → Prop), tn i s.heap → Q (.ref it) s → wpAny (model P w) A (pyIter (.ref it)) Q E s
noncomputable abbrev TI := St → Hp → (It → Hp → Prop) → Prop
noncomputable def PIE (X : Cx) (pins : List (Addr × Obj)) (σ : St) (tg : Expr) (R : It → Hp → Prop) (itv : Value) (s2 : Shared) : Prop :=
  ∃ (it : Addr) (fp : List Addr) (tn : Nat → Heap → Prop) (J : It) (H' : Hp), itv = .ref it ∧ Inv X pins σ H' s2 ∧ Turn X.prog X.w X.K tg J fp it tn ∧ tn 0 s2.heap ∧ (∀ b ∈ fp, FpOk X pins H' b) ∧ R J H'
noncomputable def PI (X : Cx) (tg iter : Expr) (wi : TI) : Prop :=
  ∀ (pins : List (Addr × Obj)) (s : Shared) (σ : St) (H : Hp) (R : It → Hp → Prop), Inv X pins σ H s → wi σ H R →
    wpAny (model X.prog X.w) X.A (eval iter X.env) (fun v s1 => wpAny (model X.prog X.w) X.A (pyIter v) (PIE X pins σ tg R) X.xe s1) X.xe s
theorem go_of {M : Model} {A : Around} {E : Value → Shared → Prop} {s : Shared} {tg : Expr} {it : Addr} {u : Value} {o : Obj} {n : String} {vs : Array Value} {Q : Unit → Shared → Prop} (ho : s.heap.get? it = some o) (hc : o.cls = .type n) (hd : o.data = .fields vs)
    (hn : ["enumerate", "zip", "dict_itemiterator", "dict_reverseitemiterator", "odict_iterator", "itertools.zip_longest", "itertools.pairwise"].contains n = false) (hQ : Q () s) : wpAny M A (letOwnedTupleGo tg (.ref it) u) Q E s := by
  unfold letOwnedTupleGo
  cases tg <;> first
    | exact wpAny_pure hQ
    | (cases u <;> first
        | exact wpAny_pure hQ
        | (refine wpAny_bind (wpAny_load ho ?_)
           rw [hc, hd]
           show wpAny M A (if (["enumerate", "zip", "dict_itemiterator", "dict_reverseitemiterator", "odict_iterator", "itertools.zip_longest", "itertools.pairwise"].contains n && vs[0]? == some (rawInt _)) = true then _ else _) Q E s
           rw [if_neg (by intro h; rw [hn, Bool.false_and] at h; cases h)]
           exact wpAny_pure hQ))
noncomputable def Itl (K : PySem.W.Frag) (a : Addr) : It :=
  ⟨fun i H => ∃ xs x, SqL K H a xs ∧ xs[i]? = some x, fun i H x H' => H' = H ∧ ∀ xs, SqL K H a xs → xs[i]? = some x, fun i H => ∃ xs, SqL K H a xs ∧ xs.length ≤ i⟩
noncomputable def Itr (lo : Int) (n : Nat) : It := ⟨fun i _ => i < n, fun i H x H' => H' = H ∧ x = .int (lo + i), fun i _ => n ≤ i⟩
theorem turn_list {P : Program} {w : World} {K : PySem.W.Frag} {tg : Expr} (a it : Addr) : Turn P w K tg (Itl K a) [it] it (fun i h => h.IsListIter it a i) where
  mem := by simp
  obj := fun i h st b hb => by
    have e : b = it := by simpa using hb
    subst e
    obtain ⟨o, e, c, d⟩ := st
    exact ⟨o, e, fun v z => by rw [d] at z; cases z⟩
  keep := fun i h h' st k => st.at fun o e => k it (by simp) o e
  item := by
    intro X hP hw hK hc i pins s σ H E I hf st hg
    subst hP hw hK
    obtain ⟨xs, x, hq, hx⟩ := hg
    obtain ⟨its, rv, p, hz⟩ := I.list hq
    obtain ⟨u, hu, ru⟩ := rv.get hx
    obtain ⟨f0, f1, f2, f3, f4, f5⟩ := hf it (by simp)
    refine wpAny_pyNext_list_item st p.isList (x := u) (by simpa using hu) fun h' st' sb => ?_
    have I1 : Inv X pins σ H { s with heap := h' } := I.turned (t' := s.toks) (fun b o hb e => (sb.2 b hb).trans e) f0 f1 f3 f4 f5
    obtain ⟨o, e, c, d⟩ := id st'
    exact ⟨u, rfl, go_of (s := { s with heap := h' }) e c d (by decide) ⟨x, H, I1, ru, ⟨rfl, fun ys hy => by rw [I.list_inj hy hq]; exact hx⟩, st', fun b hb => (hf b hb).1⟩⟩
  done := by
    intro X hP hw hK hc i pins s σ H E I hf st hg
    subst hP hw hK
    obtain ⟨xs, hq, hx⟩ := hg
    obtain ⟨its, rv, p, hz⟩ := I.list hq
    obtain ⟨f0, f1, f2, f3, f4, f5⟩ := hf it (by simp)
    have hl := rv.length
    exact wpAny_pyNext_list_end (I.ok.hd hc) st p.isList (by simp; omega) fun h' eb => ⟨rfl, I.turned (t' := s.toks) (fun b o hb e => eb b o hb e) f0 f1 f3 f4 f5⟩
  self := fun _ _ _ _ _ st h => wpAny_pyIter_listiter st h
theorem turn_range {P : Program} {w : World} {K : PySem.W.Frag} {tg : Expr} (it : Addr) (lo : Int) (n : Nat) : Turn P w K tg (Itr lo n) [it] it (fun i h => IsRangeIter h it (lo + (i : Nat) * 1) ((n : Int) - (i : Nat)) 1) where
  mem := by simp
  obj := fun i h st b hb => by
    have e : b = it := by simpa using hb
    subst e
    exact ⟨_, st, fun v z => by
      have z' : Data.fields _ = Data.cell v := z
      cases z'⟩
  keep := fun i h h' st k => k it (by simp) _ st
  item := by
    intro X hP hw hK hc i pins s σ H E I hf st hg
    subst hP hw hK
    obtain ⟨f0, f1, f2, f3, f4, f5⟩ := hf it (by simp)
    have W := Walks.range (prog := X.prog) (w := X.w) (I.ok.hd hc) it lo 1 n
    refine W.item i s _ _ hg st fun v h' tk hv st' kk => ?_
    obtain ⟨t, rfl⟩ := hv
    have I1 : Inv X pins σ H { s with heap := h', toks := tk } := I.turned (fun b o hb e => kk b o (by simpa using hb) e) f0 f1 f3 f4 f5
    refine ⟨_, rfl, go_of (s := { s with heap := h', toks := tk }) (n := "range_iterator") st' rfl rfl (by decide) ⟨.int (lo + i), H, I1, ⟨t, ?_⟩, ⟨rfl, rfl⟩, st', fun b hb => (hf b hb).1⟩⟩
    rw [Int.mul_one]
  done := by
    intro X hP hw hK hc i pins s σ H E I hf st hg
    subst hP hw hK
    obtain ⟨f0, f1, f2, f3, f4, f5⟩ := hf it (by simp)
    exact wpAny_pyNext_range_end (I.ok.hd hc) st (by have : n ≤ i := hg; omega) fun h' eb => ⟨rfl, I.turned (t' := s.toks) (fun b o hb e => eb b o hb e) f0 f1 f3 f4 f5⟩
  self := fun _ _ _ _ _ st h => wpAny_pyIter_rangeiter st h
end L2
namespace L2
open PySem PySem.Spec PyProof.Rows
section
variable {X : Cx} {tg : Expr}
noncomputable def iList (K : PySem.W.Frag) (tl : TE) : TI := fun σ H R => tl σ H fun x H1 => ∃ a, x = .ref a ∧ (∃ xs, SqL K H1 a xs) ∧ R (Itl K a) H1
theorem pi_list {l : Expr} {tl : TE} (hl : PE X l tl) : PI X tg l (iList X.K tl) := by
  intro pins s σ H R I h
  refine thn (hl pins s σ H _ I h) fun v s1 ⟨x, H1, I1, r1, q1⟩ => ?_
  obtain ⟨a, e, ⟨xs, hq⟩, q⟩ := q1
  subst e
  cases r1
  obtain ⟨its, rv, p, hz⟩ := I1.list hq
  refine wpAny_pyIter_list p.isList ?_
  refine ⟨s1.heap.objs.size, [s1.heap.objs.size], _, _, H1, rfl, I1.kept (t' := s1.toks) fun b o e => Heap.get?_push_of_some _ e, turn_list a _, ⟨_, Heap.get?_push_size _ rfl, rfl, rfl⟩, fun b hb => ?_, q⟩
  have e : b = s1.heap.objs.size := by simpa using hb
  subst e
  exact I1.fpOk (Nat.le_refl _) (I1.hok.fresh (Nat.le_refl _))
theorem range_it {pins : List (Addr × Obj)} {σ : St} {H : Hp} {s : Shared} {R : It → Hp → Prop} {E : Value → Shared → Prop} {lo hi : Int} {t u v : Tok} {tk : Nat} (I : Inv X pins σ H s) (h1 : -(2 ^ 62) ≤ lo) (h2 : lo < 2 ^ 62) (h3 : -(2 ^ 62) ≤ hi) (h4 : hi < 2 ^ 62)
    (q : R (Itr lo (hi - lo).toNat) H) : wpAny (model X.prog X.w) X.A (pyIter (.ref s.heap.objs.size)) (PIE X pins σ tg R) E { s with heap := s.heap.push { cls := .type "range", data := .fields #[.int lo t, .int hi u, .int 1 v] }, toks := tk } := by
  refine wpAny_pyIter_range (IsRange.new ..) (small_one h1 h2 h3 h4) ?_
  have I1 : Inv X pins σ H { s with heap := s.heap.push { cls := .type "range", data := .fields #[.int lo t, .int hi u, .int 1 v] }, toks := tk } := I.kept fun b o e => Heap.get?_push_of_some _ e
  refine ⟨(s.heap.push { cls := .type "range", data := .fields #[.int lo t, .int hi u, .int 1 v] }).objs.size, [(s.heap.push { cls := .type "range", data := .fields #[.int lo t, .int hi u, .int 1 v] }).objs.size], _, _, H, rfl,
    I1.kept (t' := tk) fun b o e => Heap.get?_push_of_some _ e, turn_range _ lo (hi - lo).toNat, ?_, fun b hb => ?_, q⟩
  · have e1 : lo + ((0 : Nat) : Int) * 1 = lo := by simp
    have e2 : (((hi - lo).toNat : Nat) : Int) - ((0 : Nat) : Int) = Builtin.Range.rangeSize lo hi 1 := by rw [rangeSize_one]; split <;> omega
    show IsRangeIter _ _ (lo + ((0 : Nat) : Int) * 1) ((((hi - lo).toNat : Nat) : Int) - ((0 : Nat) : Int)) 1
    rw [e1, e2]
    exact Heap.get?_push_size _ rfl
  · have e : b = (s.heap.push { cls := .type "range", data := .fields #[.int lo t, .int hi u, .int 1 v] }).objs.size := by simpa using hb
    subst e
    exact I1.fpOk (Nat.le_refl _) (I1.hok.fresh (Nat.le_refl _))
noncomputable def iRng1 (ta : TA) : TI := fun σ H R => ta σ H fun vs H1 => ∃ j : Int, vs = [.int j] ∧ -(2 ^ 62) ≤ j ∧ j < 2 ^ 62 ∧ R (Itr 0 j.toNat) H1
noncomputable def iRng2 (ta : TA) : TI := fun σ H R => ta σ H fun vs H1 => ∃ i j : Int, vs = [.int i, .int j] ∧ (-(2 ^ 62) ≤ i ∧ i < 2 ^ 62 ∧ -(2 ^ 62) ≤ j ∧ j < 2 ^ 62) ∧ R (Itr i (j - i).toNat) H1
theorem pi_range1 {a : Expr} {ta : TA} {p pos : Pos} (hg : Gl X "range") (hm : X.mg "range" = none) (ha : PA X [a] ta) (hs : starEach [a] X.env = [(false, eval a X.env)] := by rfl) : PI X tg (.Call (.Name "range" p) [a] [] pos) (iRng1 ta) := by
  intro pins s σ H R I h
  refine Call_ (ld_blt I hg hm boot_range (PyProof.Rows.callWith_type1 (thn (ha pos pins s σ H _ I h) fun us s1 ⟨vs, H1, I1, r1, q1⟩ => ?_) hs rfl))
  obtain ⟨j, e, q1, q2, q⟩ := q1
  subst e
  cases r1 with
  | cons r rr =>
    cases rr
    obtain ⟨t, rfl⟩ := r
    exact call_range_1 (range_it I1 (by omega) (by omega) q1 q2 (by simpa using q))
theorem pi_range2 {a b : Expr} {ta : TA} {p pos : Pos} (hg : Gl X "range") (hm : X.mg "range" = none) (ha : PA X [a, b] ta) (hs : starEach [a, b] X.env = [(false, eval a X.env), (false, eval b X.env)] := by rfl) (hs2 : starEach [b] X.env = [(false, eval b X.env)] := by rfl) :
    PI X tg (.Call (.Name "range" p) [a, b] [] pos) (iRng2 ta) := by
  intro pins s σ H R I h
  refine Call_ (ld_blt I hg hm boot_range (PyProof.Rows.callWith_type1 (thn (ha pos pins s σ H _ I h) fun us s1 ⟨vs, H1, I1, r1, q1⟩ => ?_) (by rw [hs, hs2]) (by rw [hs2]; rfl)))
  obtain ⟨i, j, e, ⟨q1, q2, q3, q4⟩, q⟩ := q1
  subst e
  cases r1 with
  | cons r rr =>
    cases rr with
    | cons r' rr =>
      cases rr
      obtain ⟨t, rfl⟩ := r
      obtain ⟨t', rfl⟩ := r'
      exact call_range_2 (range_it I1 q1 q2 q3 q4 q)
noncomputable def tFor (wi : TI) (g : TG) (tb : TS) : TS := fun D σ H => wi σ H fun J H1 => ∃ W : Nat → Nat → St → Hp → Prop, (∃ m, W 0 m σ H1) ∧ ∀ i m σ H, W i m σ H →
  (J.stop i H ∧ D.nx σ H) ∨ (J.go i H ∧ ∃ N : St → Hp → Prop, (∀ σ' H', N σ' H' → ∃ m', m' < m ∧ W (i + 1) m' σ' H') ∧ ∀ x H', J.yld i H x H' → g x σ H' fun σ2 H2 => tb { D with nx := N, ct := N, bk := D.nx } σ2 H2)
noncomputable def pinsAt (fp : List Addr) (h : Heap) : List (Addr × Obj) := fp.filterMap fun b => (h.get? b).map fun o => (b, o)
theorem mem_pinsAt {fp : List Addr} {h : Heap} {b : Addr} {o : Obj} (hb : b ∈ fp) (e : h.get? b = some o) : (b, o) ∈ pinsAt fp h := List.mem_filterMap.mpr ⟨b, hb, by rw [e]; rfl⟩
theorem of_pinsAt {fp : List Addr} {h : Heap} {p : Addr × Obj} (hp : p ∈ pinsAt fp h) : p.1 ∈ fp ∧ h.get? p.1 = some p.2 := by
  obtain ⟨b, hb, e⟩ := List.mem_filterMap.mp hp
  cases q : h.get? b with
  | none => rw [q] at e; cases e
  | some o =>
    rw [q] at e
    have e' : (b, o) = p := Option.some.inj e
    subst e'
    exact ⟨hb, q⟩
theorem Inv.pinned {pins : List (Addr × Obj)} {σ : St} {H : Hp} {s : Shared} {fp : List Addr} (I : Inv X pins σ H s) (hf : ∀ b ∈ fp, FpOk X pins H b) (ho : ∀ b ∈ fp, ∃ o, s.heap.get? b = some o ∧ ∀ v, o.data ≠ .cell v) : Inv X (pins ++ pinsAt fp s.heap) σ H s :=
  I.pins_of fun p hp => (List.mem_append.mp hp).elim (fun z => I.pin p (List.mem_append_right _ z)) fun z => by
    obtain ⟨hb, e⟩ := of_pinsAt z
    obtain ⟨f0, f1, f2, _⟩ := hf p.1 hb
    obtain ⟨o, e', d⟩ := ho p.1 hb
    rw [e] at e'; cases e'
    exact ⟨e, f0, f1, f2, d⟩
theorem Inv.unpinned {pins pl : List (Addr × Obj)} {σ : St} {H : Hp} {s : Shared} (I : Inv X (pins ++ pl) σ H s) : Inv X pins σ H s := I.pins_of fun p hp => I.pin p (List.mem_append_right _ (List.mem_append_left _ hp))
theorem ps_for {iter : Expr} {body : List Stmt} {wi : TI} {g : TG} {tb : TS} {pos : Pos} (hp : PassesOwn (model X.prog X.w) X.A X.env X.xe) (hc : X.calm = true) (hi : PI X tg iter wi) (hg : PG X tg g) (hb : PSs X body tb)
    (hs : ∀ x, foldedSetIterable iter X.env x = pure x := by intro _; rfl) : PS X (.For tg iter body [] pos) (tFor wi g tb) := by
  intro pins s σ H D I h
  refine wpAny_For (thn (hi pins s σ H _ I h) fun v s1 h1 => thn h1 fun itv s2 h2 => ?_) hs
  obtain ⟨it, fp, tn, J, H2, e, I2, T, st2, f2, W, ⟨m0, w0⟩, turn⟩ := h2
  subst e
  have stat : ∀ {H' : Hp}, (∀ b ∈ fp, H' b = none) → ∀ b ∈ fp, FpOk X pins H' b := fun hn b hb => ⟨hn b hb, (f2 b hb).2⟩
  refine codeAny_forLoop_any (fun n s' => ∃ i σ' H', Inv X pins σ' H' s' ∧ tn i s'.heap ∧ (∀ b ∈ fp, H' b = none) ∧ W i n σ' H') ?_ m0 ⟨0, σ, H2, I2, st2, fun b hb => (f2 b hb).1, w0⟩
  rintro n s3 ⟨i, σ3, H3, I3, st3, fr3, w3⟩
  rcases turn i n σ3 H3 w3 with ⟨stop, qn⟩ | ⟨go, N, hN, step⟩
  · refine wpAny_passesOwn hp (thn (T.done X rfl rfl rfl hc i pins s3 σ3 H3 X.xe I3 (stat fr3) st3 stop) fun r s4 ⟨hr, I4⟩ => ?_)
    subst hr
    exact wpAny_execs_nil ⟨σ3, H3, I4, qn⟩
  · refine wpAny_passesOwn hp (thn (T.item X rfl rfl rfl hc i pins s3 σ3 H3 X.xe I3 (stat fr3) st3 go) fun r s4 ⟨u, hr, h4⟩ => ?_)
    subst hr
    refine wpAny_passesOwn hp (thn h4 fun _ s5 ⟨x, H5, I5, r5, y5, st5, fr5⟩ => ?_)
    have I5' := I5.pinned (stat fr5) (T.obj _ _ st5)
    refine wpAny_passesOwn hp (thn (hg _ s5 σ3 H5 x u _ I5' r5 (step x H5 y5)) fun _ s6 ⟨σ6, H6, I6, q6⟩ => ?_)
    refine wpAny_passesOwn hp (thn (hb _ s6 σ6 H6 _ I6 q6) fun f s7 q7 => ?_)
    have again : ∀ {σ7 : St} {H7 : Hp}, Inv X (pins ++ pinsAt fp s5.heap) σ7 H7 s7 → N σ7 H7 → ∃ m, m < n ∧ ∃ i σ' H', Inv X pins σ' H' s7 ∧ tn i s7.heap ∧ (∀ b ∈ fp, H' b = none) ∧ W i m σ' H' := fun {σ7 H7} I7 n7 => by
      obtain ⟨m', hm, w7⟩ := hN σ7 H7 n7
      refine ⟨m', hm, i + 1, σ7, H7, I7.unpinned, T.keep _ _ _ st5 fun b hb o e => (I7.pin (b, o) (List.mem_append_right _ (List.mem_append_right _ (mem_pinsAt hb e)))).1, fun b hb => ?_, w7⟩
      obtain ⟨o, e, d⟩ := T.obj _ _ st5 b hb
      exact (I7.pin (b, o) (List.mem_append_right _ (List.mem_append_right _ (mem_pinsAt hb e)))).2.1
    cases f with
    | next => obtain ⟨σ7, H7, I7, n7⟩ := q7; exact again I7 n7
    | cont => obtain ⟨σ7, H7, I7, n7⟩ := q7; exact again I7 n7
    | brk => obtain ⟨σ7, H7, I7, q7⟩ := q7; exact ⟨σ7, H7, I7.unpinned, q7⟩
    | ret v => obtain ⟨x7, σ7, H7, I7, r7, q7⟩ := q7; exact ⟨x7, σ7, H7, I7.unpinned, r7, q7⟩
end
theorem for_list {K : PySem.W.Frag} {a : Addr} {xs : List V} {g : TG} {tb : TS} {D : Ends} {σ : St} {H : Hp} (Pv : Nat → St → Hp → Prop) (h0 : Pv 0 σ H) (hl : ∀ i σ H, i ≤ xs.length → Pv i σ H → SqL K H a xs)
    (hs : ∀ i x σ H, xs[i]? = some x → Pv i σ H → g x σ H fun σ2 H2 => tb { D with nx := Pv (i + 1), ct := Pv (i + 1), bk := D.nx } σ2 H2) (hd : ∀ σ H, Pv xs.length σ H → D.nx σ H) :
    ∃ W : Nat → Nat → St → Hp → Prop, (∃ m, W 0 m σ H) ∧ ∀ i m σ H, W i m σ H →
      ((Itl K a).stop i H ∧ D.nx σ H) ∨ ((Itl K a).go i H ∧ ∃ N : St → Hp → Prop, (∀ σ' H', N σ' H' → ∃ m', m' < m ∧ W (i + 1) m' σ' H') ∧ ∀ x H', (Itl K a).yld i H x H' → g x σ H' fun σ2 H2 => tb { D with nx := N, ct := N, bk := D.nx } σ2 H2) := by
  refine ⟨fun i m σ H => m = xs.length - i ∧ i ≤ xs.length ∧ Pv i σ H, ⟨xs.length, by simp, Nat.zero_le _, h0⟩, ?_⟩
  rintro i m σ H ⟨rfl, hi, p⟩
  have q := hl i σ H hi p
  by_cases hlt : i < xs.length
  · refine .inr ⟨⟨xs, xs[i], q, by simp [hlt]⟩, Pv (i + 1), fun σ' H' p' => ⟨xs.length - (i + 1), by omega, rfl, hlt, p'⟩, fun x H' y => ?_⟩
    obtain ⟨e, y⟩ := y
    subst e
    exact hs i x σ _ (y xs q) p
  · have e : i = xs.length := by omega
    subst e
    exact .inl ⟨⟨xs, q, Nat.le_refl _⟩, hd σ H p⟩
theorem for_range {lo : Int} {n : Nat} {g : TG} {tb : TS} {D : Ends} {σ : St} {H : Hp} (Pv : Nat → St → Hp → Prop) (h0 : Pv 0 σ H)
    (hs : ∀ i σ H, i < n → Pv i σ H → g (.int (lo + i)) σ H fun σ2 H2 => tb { D with nx := Pv (i + 1), ct := Pv (i + 1), bk := D.nx } σ2 H2) (hd : ∀ σ H, Pv n σ H → D.nx σ H) :
    ∃ W : Nat → Nat → St → Hp → Prop, (∃ m, W 0 m σ H) ∧ ∀ i m σ H, W i m σ H →
      ((Itr lo n).stop i H ∧ D.nx σ H) ∨ ((Itr lo n).go i H ∧ ∃ N : St → Hp → Prop, (∀ σ' H', N σ' H' → ∃ m', m' < m ∧ W (i + 1) m' σ' H') ∧ ∀ x H', (Itr lo n).yld i H x H' → g x σ H' fun σ2 H2 => tb { D with nx := N, ct := N, bk := D.nx } σ2 H2) := by
  refine ⟨fun i m σ H => m = n - i ∧ i ≤ n ∧ Pv i σ H, ⟨n, by simp, Nat.zero_le _, h0⟩, ?_⟩
  rintro i m σ H ⟨rfl, hi, p⟩
  by_cases hlt : i < n
  · refine .inr ⟨hlt, Pv (i + 1), fun σ' H' p' => ⟨n - (i + 1), by omega, rfl, hlt, p'⟩, fun x H' y => ?_⟩
    obtain ⟨e, y⟩ := y
    subst e y
    exact hs i σ _ hlt p
  · have e : i = n := by omega
    subst e
    exact .inl ⟨Nat.le_refl _, hd σ H p⟩
theorem while_by {c : TT} {tb : TS} {D : Ends} {σ : St} {H : Hp} (Pv : St → Hp → Prop) (μ : St → Hp → Nat) (h0 : Pv σ H)
    (hs : ∀ σ H, Pv σ H → c σ H fun b H1 => if b = true then tb { D with nx := fun σ' H' => Pv σ' H' ∧ μ σ' H' < μ σ H, ct := fun σ' H' => Pv σ' H' ∧ μ σ' H' < μ σ H, bk := D.nx } σ H1 else D.nx σ H1)
    (mono : ∀ σ H Q Q', (∀ b H1, Q b H1 → Q' b H1) → c σ H Q → c σ H Q') : tWhile c tb D σ H := by
  refine ⟨fun m σ H => m = μ σ H ∧ Pv σ H, ⟨_, rfl, h0⟩, ?_⟩
  rintro m σ H ⟨rfl, p⟩
  refine mono σ H _ _ (fun b H1 q => ?_) (hs σ H p)
  cases b with
  | true => exact ⟨_, fun σ' H' ⟨p', l⟩ => ⟨_, l, rfl, p'⟩, q⟩
  | false => exact q
end L2
namespace L2
open PySem PySem.Spec PyProof.Rows
noncomputable abbrev R2 := V → V → Hp → VK → Prop
noncomputable def OpR (X : Cx) (f : Value → Value → Sem Value) (r : R2) : Prop :=
  ∀ (pins : List (Addr × Obj)) (s : Shared) (σ : St) (H : Hp) (x y : V) (v u : Value) (Q : VK), Inv X pins σ H s → RelV x v → RelV y u → r x y H Q →
    wpAny (model X.prog X.w) X.A (f v u) (EP X pins σ Q) X.xe s
noncomputable def UnR (X : Cx) (f : Value → Sem Value) (r : V → Hp → VK → Prop) : Prop :=
  ∀ (pins : List (Addr × Obj)) (s : Shared) (σ : St) (H : Hp) (x : V) (v : Value) (Q : VK), Inv X pins σ H s → RelV x v → r x H Q →
    wpAny (model X.prog X.w) X.A (f v) (EP X pins σ Q) X.xe s
noncomputable def CallR (X : Cx) (f : Value) (r : List V → Hp → VK → Prop) : Prop :=
  ∀ (pins : List (Addr × Obj)) (s : Shared) (σ : St) (H : Hp) (xs : List V) (us : List Value) (Q : VK), Inv X pins σ H s → Vals xs us → r xs H Q →
    wpAny (model X.prog X.w) X.A (call f us) (EP X pins σ Q) X.xe s
noncomputable def tOp (r : R2) (ta tb : TE) : TE := fun σ H Q => ta σ H fun x H1 => tb σ H1 fun y H2 => r x y H2 Q
noncomputable def tUn (r : V → Hp → VK → Prop) (ta : TE) : TE := fun σ H Q => ta σ H fun x H1 => r x H1 Q
noncomputable def rI (C : Int → Int → Prop) (g : Int → Int → V) : R2 := fun x y H Q => ∃ i j, x = .int i ∧ y = .int j ∧ C i j ∧ Q (g i j) H
noncomputable def rI0 (g : Int → Int → V) : R2 := fun x y H Q => ∃ i j, x = .int i ∧ y = .int j ∧ Q (g i j) H
noncomputable def rU (g : Int → V) : V → Hp → VK → Prop := fun x H Q => ∃ i, x = .int i ∧ Q (g i) H
section
variable {X : Cx} {a b c : Expr} {ta tb tc : TE} {pos : Pos}
theorem binT (ha : PE X a ta) (hb : PE X b tb) {pins : List (Addr × Obj)} {s : Shared} {σ : St} {H : Hp} {R : V → V → Hp → Prop} (I : Inv X pins σ H s)
    (h : ta σ H fun x H1 => tb σ H1 fun y H2 => R x y H2) {Q : Value → Shared → Prop} {f : Value → Value → Sem Value}
    (hf : ∀ v u s2 x y H2, Inv X pins σ H2 s2 → RelV x v → RelV y u → R x y H2 → wpAny (model X.prog X.w) X.A (f v u) Q X.xe s2) :
    wpAny (model X.prog X.w) X.A (eval a X.env) (fun v s₁ => wpAny (model X.prog X.w) X.A (eval b X.env) (fun u s₂ => wpAny (model X.prog X.w) X.A (f v u) Q X.xe s₂) X.xe s₁) X.xe s := by
  refine thn (ha pins s σ H _ I h) fun v s1 ⟨x, H1, I1, r1, q1⟩ => ?_
  refine thn (hb pins s1 σ H1 _ I1 q1) fun u s2 ⟨y, H2, I2, r2, q2⟩ => ?_
  exact hf v u s2 x y H2 I2 r1 r2 q2
theorem pe_op {op : Operator} {r : R2} (ho : OpR X (binaryOp op) r) (ha : PE X a ta) (hb : PE X b tb) : PE X (.BinOp a op b pos) (tOp r ta tb) := by
  intro pins s σ H Q I h
  exact wpAny_BinOp (binT ha hb I h fun v u s2 x y H2 I2 rx ry q => ho pins s2 σ H2 x y v u Q I2 rx ry q)
theorem pe_un {op : UnaryOp} {r : V → Hp → VK → Prop} (ho : UnR X (unaryOp op) r) (ha : PE X a ta) : PE X (.UnaryOp op a pos) (tUn r ta) := by
  intro pins s σ H Q I h
  exact UnaryOp_ (thn (ha pins s σ H _ I h) fun v s1 ⟨x, H1, I1, r1, q1⟩ => ho pins s1 σ H1 x v Q I1 r1 q1)
theorem opI {f : Value → Value → Sem Value} {C : Int → Int → Prop} {g : Int → Int → Int}
    (rule : ∀ (i j : Int) (t u : Tok) (s : Shared) (Q : Value → Shared → Prop) (E : Value → Shared → Prop), C i j → Q (.int (g i j) s.toks) { s with toks := s.toks + 1 } → wpAny (model X.prog X.w) X.A (f (.int i t) (.int j u)) Q E s) :
    OpR X f (rI C fun i j => .int (g i j)) := by
  intro pins s σ H x y v u Q I rx ry h
  obtain ⟨i, j, rfl, rfl, hc, q⟩ := h
  obtain ⟨t, rfl⟩ := rx
  obtain ⟨t', rfl⟩ := ry
  exact rule i j t t' s _ _ hc ⟨.int (g i j), H, I.tok _, ⟨_, rfl⟩, q⟩
theorem opI0 {f : Value → Value → Sem Value} {g : Int → Int → Int}
    (rule : ∀ (i j : Int) (t u : Tok) (s : Shared) (Q : Value → Shared → Prop) (E : Value → Shared → Prop), Q (.int (g i j) s.toks) { s with toks := s.toks + 1 } → wpAny (model X.prog X.w) X.A (f (.int i t) (.int j u)) Q E s) :
    OpR X f (rI0 fun i j => .int (g i j)) := by
  intro pins s σ H x y v u Q I rx ry h
  obtain ⟨i, j, rfl, rfl, q⟩ := h
  obtain ⟨t, rfl⟩ := rx
  obtain ⟨t', rfl⟩ := ry
  exact rule i j t t' s _ _ ⟨.int (g i j), H, I.tok _, ⟨_, rfl⟩, q⟩
theorem opB0 {f : Value → Value → Sem Value} {g : Int → Int → Bool}
    (rule : ∀ (i j : Int) (t u : Tok) (s : Shared) (Q : Value → Shared → Prop) (E : Value → Shared → Prop), Q (.bool (g i j)) s → wpAny (model X.prog X.w) X.A (f (.int i t) (.int j u)) Q E s) :
    OpR X f (rI0 fun i j => .bl (g i j)) := by
  intro pins s σ H x y v u Q I rx ry h
  obtain ⟨i, j, rfl, rfl, q⟩ := h
  obtain ⟨t, rfl⟩ := rx
  obtain ⟨t', rfl⟩ := ry
  exact rule i j t t' s _ _ ⟨.bl (g i j), H, I, rfl, q⟩
noncomputable def CDiv (i j : Int) : Prop := 0 < j ∧ j < 1073741824
noncomputable def CMul (i j : Int) : Prop := (-(2 ^ 64) < i ∧ i < 2 ^ 64) ∨ (-(2 ^ 64) < j ∧ j < 2 ^ 64)
theorem CMul.ok {i j : Int} (h : CMul i j) : IntMulOk i j := by
  rcases h with ⟨h1, h2⟩ | ⟨h1, h2⟩
  · exact .of_left (intBits_le_64 h1 h2)
  · exact .of_right (intBits_le_64 h1 h2)
theorem op_add : OpR X (binaryOp .Add) (rI0 fun i j => .int (i + j)) := opI0 fun _ _ _ _ _ _ _ q => add_int q
theorem op_sub : OpR X (binaryOp .Sub) (rI0 fun i j => .int (i - j)) := opI0 fun _ _ _ _ _ _ _ q => sub_int q
theorem op_mul : OpR X (binaryOp .Mult) (rI CMul fun i j => .int (i * j)) := opI fun _ _ _ _ _ _ _ hc q => mul_int q hc.ok
theorem op_fdiv : OpR X (binaryOp .FloorDiv) (rI CDiv fun i j => .int (i / j)) := opI fun i j _ _ _ _ _ hc q => by
  have h1 : (0 : Int) < j := hc.1
  have h2 : j < 1073741824 := hc.2
  exact floordiv_int (by omega) (by rw [Int.fdiv_eq_ediv_of_nonneg i (by omega)]; exact q) (.inl (PyProof.noPylong_small (by omega)))
theorem op_mod : OpR X (binaryOp .Mod) (rI (fun _ j => 0 < j) fun i j => .int (i % j)) := opI fun i j _ _ _ _ _ hc q => by
  have h1 : (0 : Int) < j := hc
  exact mod_int' (by omega) (by rw [Int.fmod_eq_emod_of_nonneg i (by omega)]; exact q)
theorem unI {f : Value → Sem Value} {g : Int → Int}
    (rule : ∀ (i : Int) (t : Tok) (s : Shared) (Q : Value → Shared → Prop) (E : Value → Shared → Prop), Q (.int (g i) s.toks) { s with toks := s.toks + 1 } → wpAny (model X.prog X.w) X.A (f (.int i t)) Q E s) :
    UnR X f (rU fun i => .int (g i)) := by
  intro pins s σ H x v Q I rx h
  obtain ⟨i, rfl, q⟩ := h
  obtain ⟨t, rfl⟩ := rx
  exact rule i t s _ _ ⟨.int (g i), H, I.tok _, ⟨_, rfl⟩, q⟩
theorem un_neg : UnR X (unaryOp .USub) (rU fun i => .int (-i)) := unI fun _ _ _ _ _ q => neg_int q
end
noncomputable def scal : V → V → Bool
  | .non, .non => true | .non, .int _ => true | .int _, .non => true | .non, .bl _ => true | .bl _, .non => true | .non, .str _ => true | .str _, .non => true
  | .int _, .int _ => true | .bl _, .bl _ => true | .str _, .str _ => true | .byt _, .byt _ => true
  | .int _, .str _ => true | .str _, .int _ => true | .bl _, .str _ => true | .str _, .bl _ => true
  | _, _ => false
noncomputable def rEq : R2 := fun x y H Q => scal x y = true ∧ Q (.bl (decide (x = y))) H
noncomputable def rNe : R2 := fun x y H Q => scal x y = true ∧ Q (.bl (!decide (x = y))) H
theorem dec_int {i j : Int} : decide (V.int i = V.int j) = (i == j) := by
  rw [Bool.eq_iff_iff]
  simp
theorem dec_bl {i j : Bool} : decide (V.bl i = V.bl j) = (i == j) := by
  rw [Bool.eq_iff_iff]
  simp
theorem dec_str {i j : Str} : decide (V.str i = V.str j) = (i == j) := by
  rw [Bool.eq_iff_iff]
  simp
theorem dec_byt {i j : Array UInt8} : decide (V.byt i = V.byt j) = (i.toList == j.toList) := by
  rw [Bool.eq_iff_iff]
  cases i
  cases j
  simp
section
variable {X : Cx} {a b c : Expr} {ta tb tc : TE} {pos : Pos}
theorem fin_bl {pins : List (Addr × Obj)} {σ : St} {H : Hp} {s : Shared} {Q : VK} {k k' : Bool} (I : Inv X pins σ H s) (q : Q (.bl k) H) (e : k = k') : EP X pins σ Q (.bool k') s := by
  subst e
  exact ⟨.bl k, H, I, rfl, q⟩
theorem op_eq : OpR X (compareOp .Eq) rEq := by
  intro pins s σ H x y v u Q I rx ry h
  obtain ⟨hs, q⟩ := h
  cases x with
  | non =>
    cases rx
    cases y with
    | non => cases ry; exact PySem.EqNone.eq_none_none (fin_bl I q (by simp))
    | bl j => cases ry; exact PySem.EqNone.eq_none_bool (fin_bl I q (by simp))
    | int j => obtain ⟨t', rfl⟩ := ry; exact PySem.EqNone.eq_none_int (fin_bl I q (by simp))
    | str j => obtain ⟨t', rfl⟩ := ry; exact PySem.EqNone.eq_none_str (fin_bl I q (by simp))
    | _ => exact absurd (show false = true from hs) Bool.false_ne_true
  | bl i =>
    cases rx
    cases y with
    | non => cases ry; exact PySem.EqNone.eq_bool_none (fin_bl I q (by simp))
    | bl j => cases ry; exact eq_bool (fin_bl I q dec_bl)
    | str j => obtain ⟨t', rfl⟩ := ry; exact PySem.EqMixed.eq_bool_str (fin_bl I q (by simp))
    | _ => exact absurd (show false = true from hs) Bool.false_ne_true
  | int i =>
    obtain ⟨t, rfl⟩ := rx
    cases y with
    | non => cases ry; exact PySem.EqNone.eq_int_none (fin_bl I q (by simp))
    | int j => obtain ⟨t', rfl⟩ := ry; exact eq_int (fin_bl I q dec_int)
    | str j => obtain ⟨t', rfl⟩ := ry; exact PySem.EqMixed.eq_int_str (fin_bl I q (by simp))
    | _ => exact absurd (show false = true from hs) Bool.false_ne_true
  | str i =>
    obtain ⟨t, rfl⟩ := rx
    cases y with
    | non => cases ry; exact PySem.EqNone.eq_str_none (fin_bl I q (by simp))
    | bl j => cases ry; exact PySem.EqMixed.eq_str_bool (fin_bl I q (by simp))
    | int j => obtain ⟨t', rfl⟩ := ry; exact PySem.EqMixed.eq_str_int (fin_bl I q (by simp))
    | str j => obtain ⟨t', rfl⟩ := ry; exact eq_str (fin_bl I q dec_str)
    | _ => exact absurd (show false = true from hs) Bool.false_ne_true
  | byt i =>
    obtain ⟨t, rfl⟩ := rx
    cases y with
    | byt j => obtain ⟨t', rfl⟩ := ry; exact PySem.W.eq_bytes (fin_bl I q dec_byt)
    | _ => exact absurd (show false = true from hs) Bool.false_ne_true
  | _ => cases y <;> exact absurd (show false = true from hs) Bool.false_ne_true
theorem op_ne : OpR X (compareOp .NotEq) rNe := by
  intro pins s σ H x y v u Q I rx ry h
  obtain ⟨hs, q⟩ := h
  cases x with
  | non =>
    cases rx
    cases y with
    | non => cases ry; exact PySem.EqNone.ne_none_none (fin_bl I q (by simp))
    | bl j => cases ry; exact PySem.EqNone.ne_none_bool (fin_bl I q (by simp))
    | int j => obtain ⟨t', rfl⟩ := ry; exact PySem.EqNone.ne_none_int (fin_bl I q (by simp))
    | str j => obtain ⟨t', rfl⟩ := ry; exact PySem.EqNone.ne_none_str (fin_bl I q (by simp))
    | _ => exact absurd (show false = true from hs) Bool.false_ne_true
  | bl i =>
    cases rx
    cases y with
    | non => cases ry; exact PySem.EqNone.ne_bool_none (fin_bl I q (by simp))
    | bl j => cases ry; exact ne_bool (fin_bl I q (congrArg not dec_bl))
    | str j => obtain ⟨t', rfl⟩ := ry; exact PySem.EqMixed.ne_bool_str (fin_bl I q (by simp))
    | _ => exact absurd (show false = true from hs) Bool.false_ne_true
  | int i =>
    obtain ⟨t, rfl⟩ := rx
    cases y with
    | non => cases ry; exact PySem.EqNone.ne_int_none (fin_bl I q (by simp))
    | int j => obtain ⟨t', rfl⟩ := ry; exact ne_int (fin_bl I q (congrArg not dec_int))
    | str j => obtain ⟨t', rfl⟩ := ry; exact PySem.EqMixed.ne_int_str (fin_bl I q (by simp))
    | _ => exact absurd (show false = true from hs) Bool.false_ne_true
  | str i =>
    obtain ⟨t, rfl⟩ := rx
    cases y with
    | non => cases ry; exact PySem.EqNone.ne_str_none (fin_bl I q (by simp))
    | bl j => cases ry; exact PySem.EqMixed.ne_str_bool (fin_bl I q (by simp))
    | int j => obtain ⟨t', rfl⟩ := ry; exact PySem.EqMixed.ne_str_int (fin_bl I q (by simp))
    | str j => obtain ⟨t', rfl⟩ := ry; exact ne_str (fin_bl I q (congrArg not dec_str))
    | _ => exact absurd (show false = true from hs) Bool.false_ne_true
  | byt i =>
    obtain ⟨t, rfl⟩ := rx
    cases y with
    | byt j => obtain ⟨t', rfl⟩ := ry; exact PySem.W.ne_bytes (fin_bl I q (congrArg not dec_byt))
    | _ => exact absurd (show false = true from hs) Bool.false_ne_true
  | _ => cases y <;> exact absurd (show false = true from hs) Bool.false_ne_true
theorem op_lt : OpR X (compareOp .Lt) (rI0 fun i j => .bl (decide (i < j))) := opB0 fun _ _ _ _ _ _ _ q => lt_int q
theorem op_gt : OpR X (compareOp .Gt) (rI0 fun i j => .bl (decide (j < i))) := opB0 fun _ _ _ _ _ _ _ q => gt_int q
theorem nomark (b : Expr) {op : CmpOp} (h : op ≠ .In := by decide) (h2 : op ≠ .NotIn := by decide) : behindInMarks op b = false := by
  have e1 : (op == CmpOp.In) = false := by cases op <;> first | rfl | exact absurd rfl h
  have e2 : (op == CmpOp.NotIn) = false := by cases op <;> first | rfl | exact absurd rfl h2
  cases b <;> simp [behindInMarks, e1, e2]
theorem pe_cmpR {op : CmpOp} {r : R2} (ho : OpR X (compareOp op) r) (ha : PE X a ta) (hb : PE X b tb) (hm : behindInMarks op b = false) : PE X (.Compare a [op] [b] pos) (tOp r ta tb) := by
  intro pins s σ H Q I h
  exact wpAny_Compare1 (binT ha hb I h fun v u s2 x y H2 I2 rx ry q => ho pins s2 σ H2 x y v u Q I2 rx ry q) hm
noncomputable def tTest (t : TE) : TT := fun σ H Q => t σ H fun x H' => ∃ k, x = .bl k ∧ Q k H'
theorem pt_cmpR {op : CmpOp} {r : R2} (ho : OpR X (compareOp op) r) (ha : PE X a ta) (hb : PE X b tb) (hm : behindInMarks op b = false) : PT X (.Compare a [op] [b] pos) (tTest (tOp r ta tb)) := by
  intro pins s σ H Q I h
  refine wpAny_isTrue_Compare1 (thn (ha pins s σ H _ I h) fun v s1 ⟨x, H1, I1, r1, q1⟩ => thn (hb pins s1 σ H1 _ I1 q1) fun u s2 ⟨y, H2, I2, r2, q2⟩ =>
    thn (ho pins s2 σ H2 x y v u _ I2 r1 r2 q2) fun c s3 ⟨z, H3, I3, r3, k, e, q3⟩ => ?_) hm
  subst e
  cases r3
  exact wpAny_truthy_bool ⟨H3, I3, q3⟩
theorem line63 : (sizeLine : Nat) < 2 ^ 63 := by rw [sizeLine_eq]; decide
theorem vals1 {x : V} {us : List Value} (r : Vals [x] us) : ∃ u, us = [u] ∧ RelV x u := by
  cases r with
  | cons r1 r2 => cases r2; exact ⟨_, rfl, r1⟩
theorem vals2 {x y : V} {us : List Value} (r : Vals [x, y] us) : ∃ u w', us = [u, w'] ∧ RelV x u ∧ RelV y w' := by
  cases r with
  | cons r1 r2 =>
    cases r2 with
    | cons r3 r4 => cases r4; exact ⟨_, _, rfl, r1, r3⟩
theorem call_abs : CallR X (.builtin "abs") (fun xs H Q => ∃ i, xs = [.int i] ∧ Q (.int (if i < 0 then -i else i)) H) := by
  intro pins s σ H xs us Q I r h
  obtain ⟨i, rfl, q⟩ := h
  obtain ⟨u, rfl, t, rfl⟩ := vals1 r
  exact call_abs_int fun u tk => ⟨.int (if i < 0 then -i else i), H, I.tok _, ⟨_, rfl⟩, q⟩
theorem call_min2 (hc : X.calm = true) : CallR X (.builtin "min") (fun xs H Q => ∃ i j, xs = [.int i, .int j] ∧ Q (.int (if j < i then j else i)) H) := by
  intro pins s σ H xs us Q I r h
  obtain ⟨i, j, rfl, q⟩ := h
  obtain ⟨u, w', rfl, ⟨t, rfl⟩, ⟨t', rfl⟩⟩ := vals2 r
  refine min_two_ints (I.ok.hd hc) fun h' tk k => ⟨_, H, I.kept k, ?_, q⟩
  by_cases hj : j < i
  · rw [if_pos hj, if_pos hj]; exact ⟨_, rfl⟩
  · rw [if_neg hj, if_neg hj]; exact ⟨_, rfl⟩
theorem call_int1 : CallR X (.type "int") (fun xs H Q => (∃ i, xs = [.int i] ∧ Q (.int i) H) ∨ ∃ k, xs = [.bl k] ∧ Q (.int (if k then 1 else 0)) H) := by
  intro pins s σ H xs us Q I r h
  rcases h with ⟨i, rfl, q⟩ | ⟨k, rfl, q⟩
  · obtain ⟨u, rfl, t, rfl⟩ := vals1 r
    exact call_int_int ⟨.int i, H, I, ⟨_, rfl⟩, q⟩
  · obtain ⟨u, rfl, r1⟩ := vals1 r
    cases r1
    exact call_int_bool ⟨.int (if k then 1 else 0), H, I.tok _, ⟨_, rfl⟩, q⟩
end
end L2
namespace L2
open PySem PySem.Spec PyProof.Rows
structure ObjM (h : Heap) (x dx C : Addr) (mA : Str → Option Value) : Prop where
  obj : h.get? x = some (PySem.W.instObj C dx)
  ns : h.Ns1 dx mA
  ne : dx ≠ x
theorem lookIn_ns {h : Heap} {dx : Addr} {mA : Str → Option Value} (n : h.Ns1 dx mA) : ∃ od, h.get? dx = some od ∧ ∀ name, PySem.W.lookIn name od = some (mA name) := by
  obtain ⟨o, es, ep, ho, hd, hk, _, hm⟩ := n
  refine ⟨o, ho, fun name => ?_⟩
  have e := hm name
  unfold nsFind findBy at e
  rw [← Array.find?_toList] at e
  unfold PySem.W.lookIn
  rw [hd]
  dsimp only
  split
  · rename_i y q
    rw [q] at e
    exact congrArg some e
  · rename_i q
    rw [q] at e
    have a : es.toList.any (·.refKey) = false := by
      rw [List.any_eq_false]
      intro y hy
      obtain ⟨z, t, hkey⟩ := hk y (Array.mem_toList_iff.mp hy)
      simp [DictEntry.refKey, hkey]
    have a' : ¬ es.toList.any (·.refKey) = true := by rw [a]; exact Bool.false_ne_true
    rw [if_neg a']
    exact congrArg some e
theorem ObjM.look {h : Heap} {x dx C : Addr} {mA : Str → Option Value} (I : ObjM h x dx C mA) : ∃ od, PySem.W.InstAt h x (PySem.W.instObj C dx) C (some od) ∧ ∀ name, PySem.W.lookIn name od = some (mA name) :=
  let ⟨od, ho, hl⟩ := lookIn_ns I.ns
  ⟨od, ⟨I.obj, rfl, rfl, ho⟩, hl⟩
section
variable {prog : Program} {w : World} {A : Around} {E : Value → Shared → Prop} {s : Shared} {K : PySem.W.Frag} {x dx C f : Addr} {mA : Str → Option Value} {name : Str} {v : Value}
end
section
variable {P : Program} {w : World} {H H' : Hp} {h h' : Heap} {a C dx : Addr} {fs fs' : List (Str × V)}
theorem ins_get (hok : HOk P w H h) (e : H a = some (.ins C dx fs)) : ∃ mA, ObjM h a dx C mA ∧ (∀ f, RelO (fs.lookup f) (mA f)) ∧ PySem.Within mA (fs.map (·.1)) ∧ fs.length ≤ 1000 ∧ H dx = some (.own a) := by
  obtain ⟨d, z, ne, ob, mA, n, r, q⟩ := (show ObjOk P w H h a (.ins C dx fs) from hok a _ e)
  exact ⟨mA, ⟨ob, n, ne⟩, r, q, z, d⟩
end
structure Cls (K : PySem.W.Frag) (C : Addr) : Prop where
  pg : PySem.W.plainGet K C Str.empty = true
  hd : PySem.W.hasDictIn K C = true
  po : PySem.W.plainOver K C = true
  sa : PySem.W.findIn K (.ref C) "__setattr__" = some (some (.builtin "object.__setattr__"))
theorem Cls.get {K : PySem.W.Frag} {C : Addr} (c : Cls K C) (f : Str) : PySem.W.plainGet K C f = true := c.pg
structure Con (K : PySem.W.Frag) (C : Addr) (f : Str) (v : V) (u : Value) : Prop where
  at_ : PySem.W.findIn K (.ref C) f = some (some u)
  rel : RelV v u
  get : PySem.W.specialIn K u "__get__" = some none
  cp : PySem.W.copiedNames.contains f = false
structure Meth (K : PySem.W.Frag) (C : Addr) (m : Str) (f : Addr) : Prop where
  at_ : PySem.W.findIn K (.ref C) m = some (some (.ref f))
  fn : PySem.W.isFn K (.ref f) = true
  kp : PySem.W.keepIn K (.ref f) = true
section
variable {X : Cx} {pins : List (Addr × Obj)} {σ : St} {H : Hp} {s : Shared} {a C dx : Addr} {fs : List (Str × V)} {f : Str} {v : V} {A : Around} {E : Value → Shared → Prop}
end
section
variable {X : Cx} {o e value : Expr} {f : Str} {pos pos' tpos : Pos} {ta tv : TE}
end
section
variable {X : Cx} {pins : List (Addr × Obj)} {σ : St} {H : Hp} {s : Shared} {A : Around} {E : Value → Shared → Prop} {Q : Value → Shared → Prop} {c : Value} {b : Bool}
inductive TyOf (K : PySem.W.Frag) (H : Hp) : V → Value → Prop where
  | non : TyOf K H .non (.type "NoneType")
  | bl (x : Bool) : TyOf K H (.bl x) (.type "bool")
  | int (i : Int) : TyOf K H (.int i) (.type "int")
  | str (x : Str) : TyOf K H (.str x) (.type "str")
  | flt (x : UInt64) : TyOf K H (.flt x) (.type "float")
  | lst {a : Addr} {xs : List V} (e : H a = some (.lst xs)) : TyOf K H (.ref a) (.type "list")
  | frz {a : Addr} {o : Obj} {xs : List V} (e : H a = some (.frz o (.lst xs))) : TyOf K H (.ref a) (.type "list")
  | tup {a : Addr} {xs : List V} (e : H a = some (.tup xs)) : TyOf K H (.ref a) (.type "tuple")
  | dK {a : Addr} {kvs : List (Key × V)} (e : H a = some (.dK kvs)) : TyOf K H (.ref a) (.type "dict")
  | dT {a : Addr} {kvs : List (List Key × V)} (e : H a = some (.dT kvs)) : TyOf K H (.ref a) (.type "dict")
  | ins {a C dx : Addr} {fs : List (Str × V)} (e : H a = some (.ins C dx fs)) (cl : Cls K C) (ha : PySem.W.findIn K (.ref C) "__class__" = some (some (.builtin "object.__class__")))
      (hn : PySem.W.specialIn K (.builtin "object.__class__") "__get__" = some (some (.builtin "getset_descriptor.__get__"))) (htk : PySem.W.takesIn K (.builtin "object.__class__") = some true)
      (hm : PySem.W.mroIn K C (.type "object") = some true) : TyOf K H (.ref a) (.ref C)
theorem isinst_ok {x : V} {u t : Value} (I : Inv X pins σ H s) (rx : RelV x u) (ty : TyOf X.K H x t) (e : PySem.W.kitOne X.K t c = some b) (h : ∀ tk, Q (.bool b) { s with toks := tk }) :
    wpAny (model X.prog X.w) A (call (.builtin "isinstance") [u, c]) Q E s := by
  cases ty with
  | non => cases (show u = Value.none from rx); exact PySem.W.kia_one PySem.W.kitx_none I.kIn True.intro e (fun z => nomatch z) h
  | bl y => cases (show u = Value.bool y from rx); exact PySem.W.kia_one PySem.W.kitx_bool I.kIn True.intro e (fun z => nomatch z) h
  | int i => obtain ⟨t, q⟩ := (show ∃ t, u = Value.int i t from rx); cases q; exact PySem.W.kia_one PySem.W.kitx_int I.kIn True.intro e (fun z => nomatch z) h
  | str y => obtain ⟨t, q⟩ := (show ∃ t, u = Value.str y t from rx); cases q; exact PySem.W.kia_one PySem.W.kitx_str I.kIn True.intro e (fun z => nomatch z) h
  | flt y => obtain ⟨t, q⟩ := (show ∃ t, u = Value.float y t from rx); cases q; exact PySem.W.kia_one PySem.W.kitx_float I.kIn True.intro e (fun z => nomatch z) h
  | @lst a xs ea =>
    cases (show u = Value.ref a from rx)
    obtain ⟨_, _, n, _, h1⟩ := (show ObjOk X.prog X.w H s.heap a (.lst xs) from I.hok a _ ea)
    exact PySem.W.kia_one PySem.W.kitx_list I.kIn ⟨_, h1, rfl⟩ e (fun z => nomatch z) h
  | @frz a ob xs ea =>
    cases (show u = Value.ref a from rx)
    obtain ⟨_, _, _, n, _, h1⟩ := (show ObjOk X.prog X.w H s.heap a (.frz ob (.lst xs)) from I.hok a _ ea)
    exact PySem.W.kia_one PySem.W.kitx_list I.kIn ⟨_, h1, rfl⟩ e (fun z => nomatch z) h
  | @tup a xs ea =>
    cases (show u = Value.ref a from rx)
    obtain ⟨_, _, _, p⟩ := (show ObjOk X.prog X.w H s.heap a (.tup xs) from I.hok a _ ea)
    obtain ⟨o, h1, h2, _⟩ := p
    exact PySem.W.kia_one PySem.W.kitx_tuple I.kIn ⟨o, h1, h2⟩ e (fun z => nomatch z) h
  | @dK a kvs ea =>
    cases (show u = Value.ref a from rx)
    obtain ⟨_, _, vs, _, p⟩ := (show ObjOk X.prog X.w H s.heap a (.dK kvs) from I.hok a _ ea)
    obtain ⟨o, es, ep, h1, h2, _⟩ := p
    exact PySem.W.kia_one PySem.W.kitx_dict I.kIn ⟨o, h1, h2.1⟩ e (fun z => nomatch z) h
  | @dT a kvs ea =>
    cases (show u = Value.ref a from rx)
    obtain ⟨_, _, xs, _, o, es, ep, h1, h2, _⟩ := (show ObjOk X.prog X.w H s.heap a (.dT kvs) from I.hok a _ ea)
    exact PySem.W.kia_one PySem.W.kitx_dict I.kIn ⟨o, h1, h2.1⟩ e (fun z => nomatch z) h
  | @ins a C dx fs ea cl ha hn htk hm =>
    cases (show u = Value.ref a from rx)
    obtain ⟨mA, O, _⟩ := ins_get I.hok ea
    obtain ⟨od, J, _⟩ := O.look
    exact PySem.W.kia_one (PySem.W.kitx_own (cl.get _) cl.hd ha hn htk hm) I.kIn J e (fun z => nomatch z) h
end
end L2
namespace L2
open PySem PySem.Spec PyProof.Rows
structure Room (k : Nat) (A : Around) : Prop where
  hd : A.handled = none
  dp : A.depth + 3 * k + 5 < recursionLimit
  un : A.units + 16 * k + 200 < cLine
theorem Room.mono {j k : Nat} {A : Around} (r : Room k A) (h : j ≤ k) : Room j A := ⟨r.hd, by have := r.dp; omega, by have := r.un; omega⟩
theorem Room.deeper {k : Nat} {A : Around} (r : Room (k + 1) A) (env : Env) : Room k (A.deeper env) :=
  ⟨r.hd, by have := r.dp; show A.depth + 1 + 3 * k + 5 < _; omega, by have := r.un; show A.units + 3 + 16 * k + 200 < _; omega⟩
theorem Room.in1 {k : Nat} {A : Around} (r : Room (k + 1) A) : Room k A.in1 :=
  ⟨r.hd, by have := r.dp; show A.depth + 3 * k + 5 < _; omega, by have := r.un; show A.units + 1 + 16 * k + 200 < _; omega⟩
theorem Room.depth {k : Nat} {A : Around} (r : Room k A) : A.depth < recursionLimit := by have := r.dp; omega
theorem Room.units {k : Nat} {A : Around} (r : Room k A) : A.units + 64 < cLine := by have := r.un; omega
noncomputable def tNil : TA := fun _ H Q => Q [] H
noncomputable def tCons (ta : TE) (tr : TA) : TA := fun σ H Q => ta σ H fun x H1 => tr σ H1 fun xs H2 => Q (x :: xs) H2
section
variable {X : Cx} {e : Expr} {es : List Expr} {te : TE} {t : TA} {pos : Pos}
theorem pa_nil : PA X [] tNil := fun _ _ _ _ H Q I h => Calls.spliced_nil ⟨[], H, I, .nil, h⟩
theorem pa_cons (ha : PE X e te) (hr : PA X es t) (hs : starEach (e :: es) X.env = (false, eval e X.env) :: starEach es X.env := by rfl) : PA X (e :: es) (tCons te t) := by
  intro pos pins s σ H Q I h
  rw [hs]
  show wpAny _ _ (spliced ((false, eval e X.env) :: backTo pos (starEach es X.env))) _ _ s
  refine Calls.spliced_cons (thn (ha pins s σ H _ I h) fun u s1 ⟨x, H1, I1, r1, q1⟩ => ?_)
  exact thn (hr pos pins s1 σ H1 _ I1 q1) fun us s2 ⟨xs, H2, I2, r2, q2⟩ => ⟨x :: xs, H2, I2, .cons r1 r2, q2⟩
noncomputable def tTup (t : TA) : TE := fun σ H Q => t σ H fun xs H1 => xs.length ≤ sizeLine ∧ ∀ p, H1 p = none → Q (.ref p) (upd H1 p (.tup xs))
noncomputable def tLst (t : TA) : TE := fun σ H Q => t σ H fun xs H1 => xs.length ≤ sizeLine ∧ ∀ p, H1 p = none → Q (.ref p) (upd H1 p (.lst xs))
theorem pe_tup {x1} (h : PA X es t) : PE X (.Tuple es x1 pos) (tTup t) := by
  intro pins s σ H Q I hq
  refine wpAny_Tuple_spliced (thn (h pos pins s σ H _ I hq) fun us s1 ⟨xs, H1, I1, r, z, q⟩ => ⟨by rw [← r.length]; exact z, ?_⟩)
  have hf : H1 s1.heap.objs.size = none := I1.hok.fresh (Nat.le_refl _)
  refine ⟨.ref s1.heap.objs.size, upd H1 s1.heap.objs.size (.tup xs), I1.laid (t' := s1.toks) (fun b u e => Heap.get?_push_of_some _ e) (Nat.le_refl _) ?_, rfl, q _ hf⟩
  exact ⟨z, us, r, ⟨_, Heap.get?_push_size _ rfl, rfl, _, rfl⟩⟩
theorem pe_lst (h : PA X es t) : PE X (.List es pos) (tLst t) := by
  intro pins s σ H Q I hq
  refine wpAny_List_spliced (thn (h pos pins s σ H _ I hq) fun us s1 ⟨xs, H1, I1, r, z, q⟩ => ⟨by rw [← r.length]; exact z, ?_⟩)
  have hf : H1 s1.heap.objs.size = none := I1.hok.fresh (Nat.le_refl _)
  refine ⟨.ref s1.heap.objs.size, upd H1 s1.heap.objs.size (.lst xs), I1.laid (t' := s1.toks) (fun b u e => Heap.get?_push_of_some _ e) (Nat.le_refl _) ?_, rfl, q _ hf⟩
  exact ⟨z, us, 0, r, Heap.get?_push_size _ rfl⟩
end
noncomputable abbrev Sp := List V → Hp → VK → XK → Prop
noncomputable abbrev CXT := List Env → Hp → Shared → XK → Value → Shared → Prop
structure Env0 (P : Program) (w : World) (K : PySem.W.Frag) (mg : Str → Option Value) (base : Heap) (A : Around) (outer : List Env) (s : Shared) (H : Hp) : Prop where
  frames : A.frames = some outer
  mod : Mod K mg base
  bs : ∀ b o, base.get? b = some o → s.heap.get? b = some o ∧ H b = none
  bsz : base.objs.size ≤ s.heap.objs.size
  funs : s.heap.FunFrames base outer
  frf : ∀ b ∈ frs outer, H b = none
  hok : HOk P w H s.heap
  bare : AllBare s.gens
noncomputable def CE (outer : List Env) (P : Program) (w : World) (H : Hp) (s : Shared) (Q : VK) (u : Value) (s' : Shared) : Prop :=
  ∃ v H', s'.os = s.os ∧ AllBare s'.gens ∧ Un (frs outer) [] H H' s.heap s'.heap ∧ HOk P w H' s'.heap ∧ RelV v u ∧ Q v H'
noncomputable def CR (CX : CXT) (outer : List Env) (P : Program) (w : World) (H : Hp) (s : Shared) (Q : VK) (E : XK) (r : Result) (s' : Shared) : Prop :=
  match r with
  | .ok (.ret u) => CE outer P w H s Q u s'
  | .ok _ => False
  | .error e => CX outer H s E e s'
structure FnOk (P : Program) (w : World) (K : PySem.W.Frag) (mg : Str → Option Value) (base : Heap) (CX : CXT) (k : Nat) (f : Addr) (fd : FuncData) (ps : List Str) (sp : Sp) : Prop where
  len : ∀ vs H Q E, sp vs H Q E → vs.length = ps.length
  run : ∀ (A : Around) (outer : List Env) (s : Shared) (H : Hp) (args : Args) (us : List Value) (vs : List V) (Q : VK) (E : XK), Room k A → Env0 P w K mg base A outer s H → BindsTo s fd args (ps.zip us) → Vals vs us → sp vs H Q E →
    codeAny (model P w) A (.call (.ref f) args) (CR CX outer P w H s Q E) s
theorem FnOk.mono {P : Program} {w : World} {K : PySem.W.Frag} {mg : Str → Option Value} {base : Heap} {CX : CXT} {j k : Nat} {f : Addr} {fd : FuncData} {ps : List Str} {sp : Sp} (F : FnOk P w K mg base CX j f fd ps sp) (h : j ≤ k) :
    FnOk P w K mg base CX k f fd ps sp := ⟨F.len, fun A outer s H args us vs Q E hr => F.run A outer s H args us vs Q E (hr.mono h)⟩
theorem FnOk.imp {P : Program} {w : World} {K : PySem.W.Frag} {mg : Str → Option Value} {base : Heap} {CX : CXT} {k : Nat} {f : Addr} {fd : FuncData} {ps : List Str} {sp sp' : Sp} (F : FnOk P w K mg base CX k f fd ps sp)
    (h : ∀ vs H Q E, sp' vs H Q E → sp vs H Q E) : FnOk P w K mg base CX k f fd ps sp' :=
  ⟨fun vs H Q E q => F.len vs H Q E (h _ _ _ _ q), fun A outer s H args us vs Q E hr he hb hv hs => F.run A outer s H args us vs Q E hr he hb hv (h _ _ _ _ hs)⟩
theorem Env0.in1 {P : Program} {w : World} {K : PySem.W.Frag} {mg : Str → Option Value} {base : Heap} {A : Around} {outer : List Env} {s : Shared} {H : Hp} (e : Env0 P w K mg base A outer s H) :
    Env0 P w K mg base A.in1 outer s H := ⟨e.frames, e.mod, e.bs, e.bsz, e.funs, e.frf, e.hok, e.bare⟩
section
variable {X : Cx} {pins : List (Addr × Obj)} {σ : St} {H : Hp} {s s' : Shared}
theorem Inv.env0 (I : Inv X pins σ H s) : Env0 X.prog X.w X.K X.mg X.base X.A X.stack s H :=
  ⟨I.ok.frames, I.ok.mod, I.bs, Nat.le_trans I.ok.bsz I.sz, I.stack, I.stkFree, I.hok, I.bare⟩
theorem Inv.after {Q : VK} {u : Value} (I : Inv X pins σ H s) (h : CE X.stack X.prog X.w H s Q u s') : EP X pins σ Q u s' := by
  obtain ⟨v, H', os, bare, un, hok, r, q⟩ := h
  obtain ⟨hh, g, d, t, os'⟩ := s'
  obtain rfl : os' = s.os := os
  exact ⟨v, H', I.call (h' := hh) (g' := g) (d' := d) (t' := t) (ch := []) un hok bare (fun b z => absurd z (by simp)), r, q⟩
end
noncomputable def tCall (sp : Sp) (dvs : List V) (E : XK) (t : TA) : TE := fun σ H Q => t σ H fun vs H1 => sp (vs ++ dvs) H1 Q E
noncomputable def Binds (K : PySem.W.Frag) (fd : FuncData) (ps : List Str) (ds : List Value) : Prop :=
  ∀ (s : Shared) (us : List Value), K.In s.heap → (us ++ ds).length = ps.length → BindsTo s fd ⟨us, []⟩ (ps.zip (us ++ ds))
theorem Binds.all {K : PySem.W.Frag} {fd : FuncData} {ps : List Str} (h : ∀ us : List Value, us.length = ps.length → bindArgs fd ⟨us, []⟩ = pure (ps.zip us)) : Binds K fd ps [] := fun s us _ hl => by
  rw [List.append_nil] at hl ⊢
  exact .of_eq (h us hl)
noncomputable def Passes (CX : CXT) (X : Cx) (E : XK) : Prop := ∀ (pins : List (Addr × Obj)) (σ : St) (H : Hp) (s : Shared) (e : Value) (s' : Shared), Inv X pins σ H s → CX X.stack H s E e s' → X.xe e s'
section
variable {X : Cx} {CX : CXT} {k : Nat} {f C : Addr} {fd : FuncData} {ps : List Str} {sp : Sp} {dvs : List V} {ds : List Value} {E : XK} {x m : Str} {p pos apos : Pos} {e o : Expr} {es : List Expr} {ta : TE} {t : TA}
theorem run_fn {pins : List (Addr × Obj)} {σ : St} {H : Hp} {s : Shared} {Q : VK} {us : List Value} {vs : List V} (F : FnOk X.prog X.w X.K X.mg X.base CX k f fd ps sp) (hr : Room k X.A) (hb : Binds X.K fd ps ds) (hd : Vals dvs ds) (hx : Passes CX X E)
    (I : Inv X pins σ H s) (r : Vals vs us) (h : sp (vs ++ dvs) H Q E) : wpAny (model X.prog X.w) X.A (call (.ref f) us) (EP X pins σ Q) X.xe s := by
  have r2 : Vals (vs ++ dvs) (us ++ ds) := r.append hd
  have hl : (us ++ ds).length = ps.length := by rw [← r2.length]; exact F.len _ _ _ _ h
  refine wpAny_call (codeAny_mono (F.run X.A X.stack s H ⟨us, []⟩ (us ++ ds) (vs ++ dvs) Q E hr I.env0 (hb s us I.kIn hl) r2 h) fun r s' hq => ?_)
  cases r with
  | error e => exact hx pins σ H s e s' I hq
  | ok fl =>
    cases fl with
    | ret u => exact I.after hq
    | next => exact False.elim hq
    | brk => exact False.elim hq
    | cont => exact False.elim hq
theorem pe_call (F : FnOk X.prog X.w X.K X.mg X.base CX k f fd ps sp) (hr : Room k X.A) (hg : Gl X x) (hm : X.mg x = some (.ref f)) (hk : PySem.W.keepIn X.K (.ref f) = true) (hb : Binds X.K fd ps ds) (hd : Vals dvs ds) (hx : Passes CX X E)
    (ha : PA X (e :: es) t) (hdb : (x == ("__debug__" : Str)) = false := by decide) (he : starEach (e :: es) X.env = (false, eval e X.env) :: starEach es X.env := by rfl) (hpl : (backTo pos (starEach es X.env)).any (·.1) = false := by rfl) :
    PE X (.Call (.Name x p) (e :: es) [] pos) (tCall sp dvs E t) := by
  intro pins s σ H Q I h
  refine wpAny_Call_Name_kw (ld_glob I hg hm ?_ hdb)
  refine PySem.W.callWith_K (h₀ := X.base) I.ok.mod.kin hk (thn (ha pos pins s σ H _ I h) fun us s1 ⟨vs, H1, I1, r, q⟩ => ⟨I1.kIn, ?_⟩) he hpl
  exact run_fn F hr hb hd hx I1 r q
structure Mk (K : PySem.W.Frag) (C f : Addr) : Prop where
  makes : PySem.W.makesIn K C = true
  init : PySem.W.findIn K (.ref C) "__init__" = some (some (.ref f))
  fn : PySem.W.isFn K (.ref f) = true
  kp : PySem.W.keepIn K (.ref C) = true
end
section
variable {X : Cx} {CX : CXT} {k : Nat} {f C : Addr} {fd : FuncData} {ps ks : List Str} {sp : Sp} {E : XK} {x m : Str} {p pos apos kpos : Pos} {e o : Expr} {es : List Expr} {kws : List Keyword} {te ta : TE} {t tk : TA} {nm : Option Str}
structure KBinds (K : PySem.W.Frag) (fd : FuncData) (ps ks : List Str) (g : List Value → List Value → List Value) (gV : List V → List V → List V) : Prop where
  to : ∀ (s : Shared) (us ws : List Value), K.In s.heap → (g us ws).length = ps.length → BindsTo s fd ⟨us, ks.zip ws⟩ (ps.zip (g us ws))
  rel : ∀ {vs : List V} {us : List Value} {zs : List V} {ws : List Value}, Vals vs us → Vals zs ws → Vals (gV vs zs) (g us ws)
variable {g : List Value → List Value → List Value} {gV : List V → List V → List V}
end
structure FnScope (N P : List Str) (sc : Scope) : Prop where
  kind : sc.kind = .function
  co : sc.isCoroutine = false
  gen : sc.isGenerator = false
  nd : N.Nodup
  pre : N.take P.length = P
  par : ∀ x ∈ P, sc.names.lookup x = some .local ∨ sc.names.lookup x = some .cell
  nofree : ∀ y ∈ sc.names, y.2 ≠ .free
theorem bindL_out {kindOf : Str → Option NameKind} {x : Str} : ∀ {binds : List (Str × Value)} {m : Str → Option Value}, (∀ v, (x, v) ∉ binds) → bindL kindOf binds m x = m x
  | [], _, _ => rfl
  | (n, v) :: r, m, h => by
    unfold bindL
    rw [bindL_out fun w hw => h w (List.mem_cons_of_mem _ hw)]
    split
    · have : x ≠ n := by rintro rfl; exact h v List.mem_cons_self
      simp [this]
    · rfl
theorem bindC_out {kindOf : Str → Option NameKind} {x : Str} : ∀ {binds : List (Str × Value)} {m : Str → Option Value}, (∀ v, (x, v) ∉ binds) → bindC kindOf binds m x = m x
  | [], _, _ => rfl
  | (n, v) :: r, m, h => by
    unfold bindC
    rw [bindC_out fun w hw => h w (List.mem_cons_of_mem _ hw)]
    split
    · rfl
    · have : x ≠ n := by rintro rfl; exact h v List.mem_cons_self
      simp [this]
theorem bindL_get {kindOf : Str → Option NameKind} {x : Str} {v : Value} : ∀ {P : List Str} {vs : List Value} {i : Nat} {m : Str → Option Value}, P.Nodup → P[i]? = some x → vs[i]? = some v → kindOf x = some .local →
    bindL kindOf (P.zip vs) m x = some v
  | [], _, _, _, _, h, _, _ => by simp at h
  | _ :: _, [], _, _, _, _, h, _ => by simp at h
  | p :: P, w :: vs, 0, m, nd, h1, h2, hk => by
    simp at h1 h2; subst h1; subst h2
    show bindL kindOf ((p, w) :: P.zip vs) m p = _
    unfold bindL
    rw [bindL_out fun v hv => (List.nodup_cons.mp nd).1 (List.of_mem_zip hv).1, if_pos hk]
    simp
  | p :: P, w :: vs, i + 1, m, nd, h1, h2, hk => by
    show bindL kindOf ((p, w) :: P.zip vs) m x = _
    unfold bindL
    exact bindL_get (i := i) (List.nodup_cons.mp nd).2 (by simpa using h1) (by simpa using h2) hk
theorem bindC_get {kindOf : Str → Option NameKind} {x : Str} {v : Value} : ∀ {P : List Str} {vs : List Value} {i : Nat} {m : Str → Option Value}, P.Nodup → P[i]? = some x → vs[i]? = some v → kindOf x ≠ some .local →
    bindC kindOf (P.zip vs) m x = some v
  | [], _, _, _, _, h, _, _ => by simp at h
  | _ :: _, [], _, _, _, _, h, _ => by simp at h
  | p :: P, w :: vs, 0, m, nd, h1, h2, hk => by
    simp at h1 h2; subst h1; subst h2
    show bindC kindOf ((p, w) :: P.zip vs) m p = _
    unfold bindC
    rw [bindC_out fun v hv => (List.nodup_cons.mp nd).1 (List.of_mem_zip hv).1, if_neg hk]
    simp
  | p :: P, w :: vs, i + 1, m, nd, h1, h2, hk => by
    show bindC kindOf ((p, w) :: P.zip vs) m x = _
    unfold bindC
    exact bindC_get (i := i) (List.nodup_cons.mp nd).2 (by simpa using h1) (by simpa using h2) hk
noncomputable def start (N : List Str) (vs : List V) : St := vs.map some ++ List.replicate (N.length - vs.length) none
noncomputable def cxOf (CX : CXT) (P : Program) (w : World) (K : PySem.W.Frag) (mg : Str → Option Value) (base : Heap) (N : List Str) (qual : Str) (scope : Scope) (f : Addr) (cd : Value) (A : Around) (outer : List Env) (s : Shared) (H : Hp) (E : XK) : Cx where
  prog := P
  w := w
  K := K
  mg := mg
  base := base
  A := A.deeper (envOfC qual scope s.heap.objs.size f cd)
  N := N
  s₀ := s
  H₀ := H
  env := envOfC qual scope s.heap.objs.size f cd
  outer := outer
  stack := envOfC qual scope s.heap.objs.size f cd :: outer
  ex := []
  calm := true
  fn := fun _ => true
  pn := []
  xe := fun e s' => wpAny (model P w) (A.deeper (envOfC qual scope s.heap.objs.size f cd)) (leaving (envOfC qual scope s.heap.objs.size f cd) e) (fun _ s'' => CX outer H s E e s'') (fun e' s'' => CX outer H s E e' s'') s'
theorem cell_has {sc : Scope} {n : Nat} {x : Str} (h : sc.names.lookup x = some .cell) : ∃ c, (cellsFrom n sc.names []).lookup x = some c := by
  have q := PySem.W.cellsFrom_some sc.names n [] (.inl h)
  exact Option.isSome_iff_exists.mp q
theorem inv_start {CX : CXT} {P : Program} {w : World} {K : PySem.W.Frag} {mg : Str → Option Value} {base : Heap} {N ps : List Str} {qual : Str} {scope : Scope} {f : Addr} {cd : Value} {A : Around} {outer : List Env} {s s1 : Shared} {H : Hp} {E : XK} {us : List Value} {vs : List V}
    (S : FnScope N ps scope) (hd : A.handled = none) (e0 : Env0 P w K mg base A outer s H) (hl : vs.length = ps.length) (r : Vals vs us)
    (x : InCallC s s.heap.objs.size (bindL (envOfC qual scope s.heap.objs.size f cd).kindOf (ps.zip us) fun _ => none) (cellsFrom (s.heap.objs.size + 1) scope.names []) (bindC (envOfC qual scope s.heap.objs.size f cd).kindOf (ps.zip us) fun _ => none) s1) :
    Inv (cxOf CX P w K mg base N qual scope f cd A outer s H E) [] (start N vs) H s1 := by
  have hpl : ps.length ≤ N.length := by have := congrArg List.length S.pre; rw [List.length_take] at this; omega
  obtain ⟨h1, tk, rfl, hk⟩ := x.done
  have noA : ∀ b : Addr, b ∉ (cxOf CX P w K mg base N qual scope f cd A outer s H E).ex := fun b z => absurd (show b ∈ ([] : List Addr) from z) (by simp)
  refine ⟨⟨e0.mod, S.kind, rfl, rfl, Nat.le_refl _, fun y z c h1 h2 => ?_, fun y hy => ?_, fun y c _ h => ?_, fun _ => hd, Around.frames_deeper e0.frames, .inr ⟨rfl, rfl⟩, fun b z => absurd z (noA b), e0.bs, e0.bsz, fun b _ _ => noA b, fun b z => absurd z (noA b), e0.funs, e0.frf⟩,
    rfl, e0.bare, Un.kept hk, ⟨_, x.toInCall.ns, fun i y v h1 h2 h3 => ?_⟩, fun y c h => ⟨_, x.cell y c h⟩, e0.hok.fresh (Nat.le_refl _), fun y c h => ?_, fun p hp => absurd (show p ∈ ([] : List (Addr × Obj)) from hp) (by simp), e0.hok.kept hk, ?_⟩
  · exact name_of_addr x.apart (PySem.mem_of_lookup h1) (PySem.mem_of_lookup h2)
  · have hy : scope.names.lookup y = some .cell ∨ scope.names.lookup y = some .free := hy
    rcases hy with hy | hy
    · exact cell_has hy
    · exact absurd rfl (S.nofree _ (PySem.mem_of_lookup hy))
  · exact Nat.le_of_lt (x.above y c (PySem.mem_of_lookup h))
  · have hi : i < vs.length := by
      unfold start at h2
      by_cases hi : i < vs.length
      · exact hi
      · rw [List.getElem?_append_right (by simpa using hi)] at h2
        rw [List.getElem?_replicate] at h2
        split at h2 <;> cases h2
    have ha : vs[i]? = some v := by
      unfold start at h2
      rw [List.getElem?_append_left (by simpa using hi), List.getElem?_map] at h2
      cases e : vs[i]? with
      | none => rw [e] at h2; cases h2
      | some a => rw [e] at h2; cases h2; rfl
    obtain ⟨u, hu, rv⟩ := r.get ha
    have hp : ps[i]? = some y := by
      rw [← S.pre, List.getElem?_take_of_lt (by omega)]; exact h1
    have ndP : ps.Nodup := by rw [← S.pre]; exact S.nd.sublist (List.take_sublist _ _)
    refine ⟨u, rv, ?_⟩
    rcases S.par y (List.mem_of_getElem? hp) with k | k
    · exact .inl ⟨k, bindL_get ndP hp hu k⟩
    · obtain ⟨c, e⟩ := cell_has (n := s.heap.objs.size + 1) k
      refine .inr ⟨.inl k, c, e, ?_⟩
      have q := x.cell y c e
      rw [bindC_get ndP hp hu (by show scope.names.lookup y ≠ _; rw [k]; decide)] at q
      exact q
  · exact e0.hok.fresh (Nat.le_of_lt (x.above y c (PySem.mem_of_lookup h)))
  · unfold start
    show _ = N.length
    rw [List.length_append, List.length_map, List.length_replicate]
    omega
theorem fn_of {CX : CXT} {P : Program} {w : World} {K : PySem.W.Frag} {mg : Str → Option Value} {base : Heap} {k : Nat} {f : Addr} {name qual : Str} {params : Arguments} {body : List Stmt} {scope : Scope} {dV kV doc pm cdv ct oc : Value} {an od : Option Addr}
    {osl : Array (Option Value)} {N ps : List Str} {sp : Sp} (lk : K.lookup f = some ⟨oc, od, .func (PySem.W.fnOf name qual params body scope dV kV doc pm an cdv ct), osl⟩) (hcd : PySem.W.codeIn K cdv qual = true) (S : FnScope N ps scope)
    (len : ∀ vs H Q E, sp vs H Q E → vs.length = ps.length)
    (hbody : ∀ (A : Around) (outer : List Env) (s : Shared) (H : Hp) (vs : List V) (Q : VK) (E : XK), Room k (A.deeper (envOfC qual scope s.heap.objs.size f cdv)) → sp vs H Q E →
      ∃ t, PSs (cxOf CX P w K mg base N qual scope f cdv A outer s H E) body t ∧ t { nx := fun _ H' => Q .non H', rt := Q } (start N vs) H) :
    FnOk P w K mg base CX (k + 1) f (PySem.W.fnOf name qual params body scope dV kV doc pm an cdv ct) ps sp := by
  refine ⟨len, fun A outer s H args us vs Q E hr e0 hb r hsp => ?_⟩
  have hl := len _ _ _ _ hsp
  have KX : K.In s.heap := e0.mod.kin.keeps fun b o e => (e0.bs b o e).1
  have lim : s.heap.NoLimit := e0.mod.nolimit.keeps fun b o e => (e0.bs b o e).1
  have hkind : ∀ y ∈ ps.zip us, scope.names.lookup y.1 = some .local ∨ (scope.names.lookup y.1 = some .cell ∧ ((cellsFrom (s.heap.objs.size + 1) scope.names []).lookup y.1).isSome = true) := fun ⟨n, v⟩ hy => by
    rcases S.par n (List.of_mem_zip hy).1 with q | q
    · exact .inl q
    · exact .inr ⟨q, PySem.W.cellsFrom_some _ _ _ (.inl q)⟩
  refine codeAny_call_function hr.depth (KX _ _ lk) rfl S.co S.gen rfl (PySem.W.codeRec_of KX hcd) (hb _ _ _ _ ?_)
  refine wpAny_newFunctionEnv_cells S.kind hkind fun env he s1 x => ?_
  subst he
  refine ⟨lim.keeps x.toInCall.keep, codeAny_func ?_⟩
  obtain ⟨t, ht, hq⟩ := hbody A outer s H vs Q E (hr.deeper _) hsp
  have I : Inv (cxOf CX P w K mg base N qual scope f cdv A outer s H E) [] (start N vs) H s1 := inv_start S hr.hd e0 hl r x
  refine wpAny_mono (ht [] s1 (start N vs) H _ I hq) (fun fl s' hs => ?_) fun e s' hs => hs
  have fin : ∀ {σ' : St} {H' : Hp} {v : V} {u : Value}, Inv (cxOf CX P w K mg base N qual scope f cdv A outer s H E) [] σ' H' s' → RelV v u → Q v H' → CE outer P w H s Q u s' :=
    fun {σ' H' v u} J rv q => ⟨v, H', J.os, J.bare, J.base, J.hok, rv, q⟩
  cases fl with
  | ret u =>
    obtain ⟨v, σ', H', J, rv, q⟩ := hs
    exact fin J rv q
  | next =>
    obtain ⟨σ', H', J, q⟩ := hs
    exact fin (v := V.non) (u := Value.none) J rfl q
  | brk =>
    obtain ⟨_, _, _, q⟩ := hs
    exact False.elim q
  | cont =>
    obtain ⟨_, _, _, q⟩ := hs
    exact False.elim q
end L2
namespace L2
open PySem PySem.Spec PyProof.Rows
section
variable {X : Cx} {x : Str} {p pos : Pos} {e : Expr} {es : List Expr} {t : TA} {id T : String} {r : List V → Hp → VK → Prop}
noncomputable def tCB (r : List V → Hp → VK → Prop) (t : TA) : TE := fun σ H Q => t σ H fun vs H1 => r vs H1 Q
theorem pe_callB (hc : CallR X (.builtin id) r) (hg : Gl X x) (hm : X.mg x = none) (hv : bootBuiltins x = some (.builtin id)) (ha : PA X (e :: es) t) (hn : x ≠ "__name__" := by decide) (hdb : (x == ("__debug__" : Str)) = false := by decide)
    (he : starEach (e :: es) X.env = (false, eval e X.env) :: starEach es X.env := by rfl) (hpl : (backTo pos (starEach es X.env)).any (·.1) = false := by rfl) : PE X (.Call (.Name x p) (e :: es) [] pos) (tCB r t) := by
  intro pins s σ H Q I h
  refine wpAny_Call_Name_kw (ld_blt I hg hm hv ?_ hn hdb)
  exact PyProof.Rows.callWith_builtin1 (thn (ha pos pins s σ H _ I h) fun us s1 ⟨vs, H1, I1, r1, q1⟩ => hc pins s1 σ H1 vs us Q I1 r1 q1) he hpl
theorem pe_callTy (hc : CallR X (.type T) r) (hg : Gl X x) (hm : X.mg x = none) (hv : bootBuiltins x = some (.type T)) (ha : PA X (e :: es) t) (hn : x ≠ "__name__" := by decide) (hdb : (x == ("__debug__" : Str)) = false := by decide)
    (he : starEach (e :: es) X.env = (false, eval e X.env) :: starEach es X.env := by rfl) (hpl : (backTo pos (starEach es X.env)).any (·.1) = false := by rfl) : PE X (.Call (.Name x p) (e :: es) [] pos) (tCB r t) := by
  intro pins s σ H Q I h
  refine wpAny_Call_Name_kw (ld_blt I hg hm hv ?_ hn hdb)
  exact PyProof.Rows.callWith_type1 (thn (ha pos pins s σ H _ I h) fun us s1 ⟨vs, H1, I1, r1, q1⟩ => hc pins s1 σ H1 vs us Q I1 r1 q1) he hpl
end
end L2
namespace HT
open PySem PyProof.Rows
section
open PySem.SeqAt
open PySem.AutoSeq1 (wpAny_loadPart')
open PySem.MeetsSeq PySem.MeetsSeq2 PySem.MeetsSeq3
end
section
variable {prog : Program} {w : World} {A : Around} {E : Value → Shared → Prop} {s : Shared}
noncomputable def sIx (n d : Nat) : Option Int → Nat
  | none => d
  | some v => if v < 0 then (v + (n : Int)).toNat else min v.toNat n
theorem sIx_nat (n d k : Nat) : sIx n d (some (k : Int)) = min k n := by
  show (if (k : Int) < 0 then ((k : Int) + (n : Int)).toNat else min (k : Int).toNat n) = min k n
  rw [if_neg (by omega), Int.toNat_natCast]
end
end HT
namespace L2
open PySem PySem.Spec PyProof.Rows
noncomputable abbrev TO := St → Hp → (Option Int → Hp → Prop) → Prop
noncomputable def PO (X : Cx) (e : Option Expr) (t : TO) : Prop :=
  ∀ (pins : List (Addr × Obj)) (s : Shared) (σ : St) (H : Hp) (Q : Option Int → Hp → Prop), Inv X pins σ H s → t σ H Q →
    wpAny (model X.prog X.w) X.A (evalPart e X.env) (fun u s' => ∃ o H', Inv X pins σ H' s' ∧ IsPart u o ∧ Q o H') X.xe s
noncomputable def tPart (t : TE) : TO := fun σ H Q => t σ H fun x H1 => ∃ i, x = .int i ∧ Q (some i) H1
theorem intsAre_of {ns : List Int} : ∀ {us : List Value}, Vals (ns.map V.int) us → IntsAre us ns := by
  induction ns with
  | nil => intro us r; rw [List.map_nil] at r; cases r; exact .nil
  | cons n ns ih =>
    intro us r
    rw [List.map_cons] at r
    cases r with
    | cons r1 r2 =>
      obtain ⟨t, e⟩ := r1
      subst e
      exact .cons n t (ih r2)
section
variable {X : Cx} {e : Expr} {te : TE} {lo hi : Option Expr} {tl th : TO} {pos p2 : Pos}
theorem po_some (h : PE X e te) : PO X (some e) (tPart te) := by
  intro pins s σ H Q I hw
  rw [evalPart_some]
  refine thn (h pins s σ H _ I hw) fun u s1 ⟨x, H1, I1, r1, q1⟩ => ?_
  obtain ⟨i, rfl, q⟩ := q1
  obtain ⟨t, rfl⟩ := r1
  exact ⟨some i, H1, I1, .int i t, q⟩
noncomputable def SlR (X : Cx) (r : V → Option Int → Option Int → Hp → VK → Prop) : Prop :=
  ∀ (pins : List (Addr × Obj)) (s : Shared) (σ : St) (H : Hp) (x : V) (v vl vu : Value) (lo hi : Option Int) (sl : Addr) (Q : VK), Inv X pins σ H s → RelV x v → s.heap.IsSliceOf sl vl vu .none → IsPart vl lo → IsPart vu hi → r x lo hi H Q →
    ∃ T id, typeLookup (.type T) "__getitem__" = pure (some (.builtin id)) ∧ s.TypeIs v T ∧ wpAny (model X.prog X.w) X.A (getItem v (.ref sl)) (EP X pins σ Q) X.xe s
noncomputable def tSl (r : V → Option Int → Option Int → Hp → VK → Prop) (te : TE) (tl th : TO) : TE := fun σ H Q => te σ H fun x H1 => tl σ H1 fun l H2 => th σ H2 fun u H3 => r x l u H3 Q
theorem pe_slice {r : V → Option Int → Option Int → Hp → VK → Prop} (hr : SlR X r) (he : PE X e te) (hl : PO X lo tl) (hu : PO X hi th) : PE X (.Subscript e (.Slice lo hi none p2) pos) (tSl r te tl th) := by
  intro pins s σ H Q I h
  refine Subscript_ (thn (he pins s σ H _ I h) fun v s1 ⟨x, H1, I1, r1, q1⟩ => ?_)
  refine wpAny_Slice (thn (hl pins s1 σ H1 _ I1 q1) fun vl s2 ⟨l, H2, I2, pl, q2⟩ => thn (hu pins s2 σ H2 _ I2 q2) fun vu s3 ⟨u, H3, I3, pu, q3⟩ => ?_)
  rw [evalPart_none]
  refine wpAny_pure ?_
  have I4 : Inv X pins σ H3 { s3 with heap := s3.heap.push { cls := .type "slice", data := .fields #[vl, vu, .none] } } := I3.kept (t' := s3.toks) fun b ob q => Heap.get?_push_of_some _ q
  obtain ⟨T, id, hT, ht, hg⟩ := hr pins { s3 with heap := s3.heap.push { cls := .type "slice", data := .fields #[vl, vu, .none] } } σ H3 x v vl vu l u s3.heap.objs.size Q I4 r1 (Heap.IsSliceOf.new ..) pl pu q3
  show wpAny (model X.prog X.w) X.A (subscriptTail e (.Slice lo hi none p2) v (.ref s3.heap.objs.size)) (EP X pins σ Q) X.xe { s3 with heap := s3.heap.push { cls := .type "slice", data := .fields #[vl, vu, .none] } }
  exact tail_any (ops := [.ref s3.heap.objs.size, v]) ht hT hg (by with_unfolding_all rfl)
noncomputable def cutV (xs : List V) (lo hi : Option Int) : List V := (xs.drop (HT.sIx xs.length 0 lo)).take (HT.sIx xs.length xs.length hi - HT.sIx xs.length 0 lo)
theorem cutV_length (xs : List V) (lo hi : Option Int) : (cutV xs lo hi).length ≤ xs.length := by
  unfold cutV
  rw [List.length_take, List.length_drop]
  omega
end
end L2
namespace L2
open PySem PySem.Spec PyProof.Rows
noncomputable def ixN (n : Nat) (i : Int) : Option Nat := if 0 ≤ i then (if i < n then some i.toNat else none) else if -(n : Int) ≤ i then some (i + n).toNat else none
noncomputable def atI {α : Type} (xs : List α) (i : Int) : Option α := (ixN xs.length i).bind fun j => xs[j]?
theorem ixN_seq {n : Nat} {i : Int} {j : Nat} (h : ixN n i = some j) : seqIndex? i n = some j ∧ j < n ∧ -(n : Int) ≤ i ∧ i < n := by
  unfold ixN at h
  by_cases h0 : 0 ≤ i
  · rw [if_pos h0] at h
    by_cases h1 : i < n
    · rw [if_pos h1] at h
      have e : i.toNat = j := Option.some.inj h
      exact ⟨by rw [seqIndex_of h0 h1, e], by omega, by omega, h1⟩
    · rw [if_neg h1] at h; cases h
  · rw [if_neg h0] at h
    by_cases h1 : -(n : Int) ≤ i
    · rw [if_pos h1] at h
      have e : (i + n).toNat = j := Option.some.inj h
      exact ⟨by rw [seqIndex_neg (by omega) h1, e], by omega, h1, by omega⟩
    · rw [if_neg h1] at h; cases h
theorem atI_get {α : Type} {xs : List α} {i : Int} {v : α} (h : atI xs i = some v) : ∃ j, seqIndex? i xs.length = some j ∧ xs[j]? = some v ∧ j < xs.length ∧ -(xs.length : Int) ≤ i ∧ i < xs.length := by
  unfold atI at h
  cases e : ixN xs.length i with
  | none => rw [e] at h; cases h
  | some j =>
    rw [e] at h
    obtain ⟨h1, h2, h3, h4⟩ := ixN_seq e
    exact ⟨j, h1, h, h2, h3, h4⟩
theorem atI_nat {α : Type} {xs : List α} {j : Nat} {v : α} (h : xs[j]? = some v) : atI xs (j : Int) = some v := by
  have hj : j < xs.length := (List.getElem?_eq_some_iff.mp h).1
  have e : ixN xs.length (j : Int) = some j := by
    unfold ixN
    rw [if_pos (by omega), if_pos (by omega)]; simp
  unfold atI; rw [e]; exact h
noncomputable def PlainIx (b : Expr) : Prop := ∀ o i, subscripted b false o i = operate [o, i] (getItem o i)
noncomputable def IxR (X : Cx) (r : R2) : Prop :=
  ∀ (value slice : Expr) (pins : List (Addr × Obj)) (s : Shared) (σ : St) (H : Hp) (x y : V) (v u : Value) (Q : VK), Inv X pins σ H s → RelV x v → RelV y u → r x y H Q →
    subscripted slice false v u = operate [v, u] (getItem v u) → wpAny (model X.prog X.w) X.A (subscriptTail value slice v u) (EP X pins σ Q) X.xe s
noncomputable def MtR (X : Cx) (id : String) (r : V → List V → Hp → VK → Prop) : Prop :=
  ∀ (pins : List (Addr × Obj)) (s : Shared) (σ : St) (H : Hp) (x : V) (xs : List V) (v : Value) (us : List Value) (Q : VK), Inv X pins σ H s → RelV x v → Vals xs us → r x xs H Q →
    wpAny (model X.prog X.w) X.A (call (.builtin id) (v :: us)) (EP X pins σ Q) X.xe s
section
variable {X : Cx} {a b : Expr} {ta tb : TE} {pos : Pos}
theorem pe_ix {r : R2} (hr : IxR X r) (ha : PE X a ta) (hb : PE X b tb) (hs : PlainIx b) : PE X (.Subscript a b pos) (tOp r ta tb) := by
  intro pins s σ H Q I h
  exact Subscript_ (binT ha hb I h fun v u s2 x y H2 I2 rx ry q => hr a b pins s2 σ H2 x y v u Q I2 rx ry q (hs _ _))
noncomputable def rIxL (K : PySem.W.Frag) : R2 := fun x y H Q => ∃ p xs i v, x = .ref p ∧ y = .int i ∧ SqL K H p xs ∧ atI xs i = some v ∧ Q v H
noncomputable def rIxT (K : PySem.W.Frag) : R2 := fun x y H Q => ∃ p xs i v, x = .ref p ∧ y = .int i ∧ SqT K H p xs ∧ atI xs i = some v ∧ Q v H
theorem ix_list : IxR X (rIxL X.K) := by
  intro value slice pins s σ H x y v u Q I rx ry h hs
  obtain ⟨p, xs, i, z, rfl, rfl, hq, he, q⟩ := h
  cases rx
  obtain ⟨t, rfl⟩ := ry
  obtain ⟨its, r, pl, hz⟩ := I.list hq
  obtain ⟨j, h1, h2, h3, h4, h5⟩ := atI_get he
  obtain ⟨w, ew, rw'⟩ := r.get h2
  have hl := r.length
  have hn := line63
  have fin : EP X pins σ Q w s := ⟨z, H, I, rw', q⟩
  by_cases h0 : 0 ≤ i
  · have hj : i.toNat = j := by
      rw [seqIndex_of h0 h5] at h1
      exact Option.some.inj h1
    exact item_listR pl.isList h0 (by omega) (by rw [hj]; simpa using ew) fin hs
  · have hj : (i + (its.toArray.size : Int)).toNat = j := by
      rw [seqIndex_neg (by omega) h4] at h1
      rw [List.size_toArray, ← hl]
      exact Option.some.inj h1
    exact subscriptTail_builtinR (x := w) pl.isList.typeIs slot_list_getitem.lookup
      (wpAny_getItem_list_neg (Q := fun r s' => r = w ∧ EP X pins σ Q r s') pl.isList (by omega) (by rw [List.size_toArray] <;> omega) (by omega) (by rw [hj]; simpa using ew) ⟨rfl, fin⟩) hs
theorem ix_tup : IxR X (rIxT X.K) := by
  intro value slice pins s σ H x y v u Q I rx ry h hs
  obtain ⟨p, xs, i, z, rfl, rfl, hq, he, q⟩ := h
  cases rx
  obtain ⟨t, rfl⟩ := ry
  obtain ⟨its, r, pl, hz⟩ := I.tuple hq
  obtain ⟨j, h1, h2, h3, h4, h5⟩ := atI_get he
  obtain ⟨w, ew, rw'⟩ := r.get h2
  have hl := r.length
  have hn := line63
  have fin : EP X pins σ Q w s := ⟨z, H, I, rw', q⟩
  exact subscriptTail_builtinR (x := w) pl.typeIs slot_tuple_getitem.lookup
    (getItem_tuple (j := j) (Q := fun r s' => r = w ∧ EP X pins σ Q r s') pl (by omega) (by omega) (by rw [List.size_toArray, ← hl]; exact h1) (by simpa using ew) ⟨rfl, fin⟩) hs
theorem Inv.lst {pins : List (Addr × Obj)} {σ : St} {H : Hp} {s : Shared} {p : Addr} {xs : List V} (I : Inv X pins σ H s) (h : H p = some (.lst xs)) :
    ∃ (its : List Value) (n : Nat), Vals xs its ∧ s.heap.get? p = some { cls := .type "list", data := .seq its.toArray n } ∧ xs.length ≤ sizeLine := by
  obtain ⟨z, its, n, r, e⟩ := I.hok p _ h
  exact ⟨its, n, r, e, z⟩
theorem slice_bounds (lo hi : Option Int) (n : Nat) : (sliceBounds lo hi none n).1 = ((HT.sIx n 0 lo : Nat) : Int) ∧ (sliceBounds lo hi none n).2.1 = ((HT.sIx n n hi : Nat) : Int) ∧ (sliceBounds lo hi none n).2.2 = 1 := by
  refine ⟨?_, ?_, rfl⟩
  · cases lo with
    | none => simp [sliceBounds, HT.sIx]
    | some i =>
      simp only [sliceBounds, HT.sIx, Option.getD_none, show (1 : Int) > 0 by decide, if_true]
      by_cases h : i < 0
      · simp only [h, if_true] <;> omega
      · simp only [h, if_false] <;> omega
  · cases hi with
    | none => simp [sliceBounds, HT.sIx]
    | some i =>
      simp only [sliceBounds, HT.sIx, Option.getD_none, show (1 : Int) > 0 by decide, if_true]
      by_cases h : i < 0
      · simp only [h, if_true] <;> omega
      · simp only [h, if_false] <;> omega
theorem slicePick_cut (its : List Value) (lo hi : Option Int) : slicePick its.toArray lo hi none = ((its.drop (HT.sIx its.length 0 lo)).take (HT.sIx its.length its.length hi - HT.sIx its.length 0 lo)).toArray := by
  obtain ⟨h1, h2, h3⟩ := slice_bounds lo hi its.toArray.size
  unfold slicePick
  rw [h1, h2, h3]
  simp only [sliceRange_one, pick_run, List.size_toArray] <;> rfl
noncomputable def rSlL (K : PySem.W.Frag) : V → Option Int → Option Int → Hp → VK → Prop := fun x lo hi H Q => ∃ a xs, x = .ref a ∧ SqL K H a xs ∧ ∀ p, H p = none → Q (.ref p) (upd H p (.lst (cutV xs lo hi)))
theorem sl_list : SlR X (rSlL X.K) := by
  intro pins s σ H x v vl vu lo hi sl Q I rx hs pl pu h
  obtain ⟨a, xs, rfl, hx, q⟩ := h
  cases rx
  obtain ⟨its, r, ht, hz⟩ := I.list hx
  have hlen := r.length
  refine ⟨"list", _, slot_list_getitem.lookup, ht.isList.typeIs, ?_⟩
  refine wpAny_getItem_list_slice ht.isList hs pl pu .none (by simp) ?_ (by rw [List.size_toArray] <;> omega)
  rw [slicePick_cut, ← hlen]
  refine ⟨.ref s.heap.objs.size, _, I.laid (t' := s.toks) (o := .lst (cutV xs lo hi)) (fun b ob q => Heap.get?_push_of_some _ q) (Nat.le_refl _) ?_, rfl, q _ (I.hok.fresh (Nat.le_refl _))⟩
  exact ⟨Nat.le_trans (cutV_length xs lo hi) hz, _, 0, (r.drop (HT.sIx xs.length 0 lo)).take (HT.sIx xs.length xs.length hi - HT.sIx xs.length 0 lo), Heap.get?_push_size _ rfl⟩
theorem call_len_seq : CallR X (.builtin "len") (fun xs H Q => ∃ p ys, xs = [.ref p] ∧ (SqL X.K H p ys ∨ SqT X.K H p ys) ∧ Q (.int ys.length) H) := by
  intro pins s σ H xs us Q I r h
  obtain ⟨p, ys, rfl, hq, q⟩ := h
  obtain ⟨u, rfl, rx⟩ := vals1 r
  cases rx
  have hn := line63
  rcases hq with hq | hq
  · obtain ⟨its, r', pl, hz⟩ := I.list hq
    have hlen := r'.length
    exact Calls.call_len_list pl.isList (by simp only [List.size_toArray] <;> omega) ⟨.int ys.length, H, I.tok _, ⟨s.toks + 1, by rw [List.size_toArray, hlen]⟩, q⟩
  · obtain ⟨its, r', pl, hz⟩ := I.tuple hq
    have hlen := r'.length
    exact len_tuple pl (by simp only [List.size_toArray] <;> omega) ⟨.int ys.length, H, I.tok _, ⟨s.toks + 1, by rw [List.size_toArray, hlen]⟩, q⟩
noncomputable def tyV (K : PySem.W.Frag) (T : String) (x : V) (H : Hp) : Prop := match x with
  | .str _ => T = "str"
  | .int _ => T = "int"
  | .ref p => (T = "list" ∧ ∃ xs, SqL K H p xs) ∨ (T = "tuple" ∧ ∃ o, K.lookup p = some o ∧ o.cls = .type "tuple" ∧ o.dict = none) ∨
      (T = "dict" ∧ ((∃ kvs, H p = some (.dK kvs)) ∨ ∃ kvs, H p = some (.dT kvs))) ∨ (T = "set" ∧ ∃ S n, H p = some (.set S n))
  | _ => False
theorem tyV_is {pins : List (Addr × Obj)} {σ : St} {H : Hp} {s : Shared} {T : String} {x : V} {v : Value} (I : Inv X pins σ H s) (r : RelV x v) (ty : tyV X.K T x H) :
    s.TypeIs v T ∧ ∀ a, v = .ref a → ∃ ob, s.heap.get? a = some ob ∧ ob.dict = none := by
  cases x with
  | str z =>
    obtain ⟨t, rfl⟩ := r
    cases (show T = "str" from ty)
    exact ⟨typeIs_str s z t, fun _ e => nomatch e⟩
  | int i =>
    obtain ⟨t, rfl⟩ := r
    cases (show T = "int" from ty)
    exact ⟨typeIs_int s i t, fun _ e => nomatch e⟩
  | ref p =>
    cases r
    rcases ty with ⟨rfl, xs, hq⟩ | ⟨rfl, o, hk, hc, hd⟩ | ⟨rfl, hk⟩ | ⟨rfl, S, n, hk⟩
    · obtain ⟨its, _, pl, _⟩ := I.list hq
      refine ⟨pl.isList.typeIs, fun a e => ?_⟩
      cases e
      obtain ⟨o, n, e, c, hd, _⟩ := pl
      exact ⟨o, e, hd⟩
    · refine ⟨⟨o, I.kIn p o hk, hc⟩, fun a e => ?_⟩
      cases e
      exact ⟨o, I.kIn _ o hk, hd⟩
    · have z : ∃ o, s.heap.get? p = some o ∧ o.ExactDict := by
        rcases hk with ⟨kvs, hk⟩ | ⟨kvs, hk⟩
        · obtain ⟨_, _, _, _, o, _, _, e, ex, _⟩ := I.hok p _ hk
          exact ⟨o, e, ex⟩
        · obtain ⟨_, _, _, _, o, _, _, e, ex, _⟩ := I.hok p _ hk
          exact ⟨o, e, ex⟩
      obtain ⟨o, e, ex⟩ := z
      refine ⟨⟨o, e, ex.1⟩, fun a e2 => ?_⟩
      cases e2
      exact ⟨o, e, ex.2.1⟩
    · obtain ⟨o, _, _, _, e, ex, _⟩ := I.hok p _ hk
      refine ⟨⟨o, e, ex.1⟩, fun a e2 => ?_⟩
      cases e2
      exact ⟨o, e, ex.2.1⟩
  | _ => exact False.elim ty
noncomputable def tBM (K : PySem.W.Frag) (T : String) (r : V → List V → Hp → VK → Prop) (to : TE) (t : TA) : TE := fun σ H Q => to σ H fun x H1 => tyV K T x H1 ∧ t σ H1 fun xs H2 => r x xs H2 Q
variable {o e : Expr} {es : List Expr} {to : TE} {t : TA} {name : Str} {apos cpos : Pos} {T id : String} {r : V → List V → Hp → VK → Prop}
theorem pe_bm (pa : PlainAttrs T) (slot : Slot T name id) (hty : typeOf (.builtin id) = pure (.type "method_descriptor")) (hm : MtR X id r) (ho : PE X o to) (ha : PA X (e :: es) t)
    (hbase : attributeBase o name X.env (eval o X.env) = eval o X.env := by rfl)
    (hfew : ((backTo cpos (starEach (e :: es) X.env)).all (fun x => !x.1) && (backToKw cpos (keywordEach [] X.env)).all (fun x => x.1.isSome)
      && decide ((e :: es).length + ([] : List Keyword).length + (if ([] : List Keyword).isEmpty then 0 else 1) < 30)) = true := by rfl)
    (hline : (apos.endLine == cpos.line) = true := by rfl) (hs : starEach (e :: es) X.env = (false, eval e X.env) :: starEach es X.env := by rfl) (hplain : (backTo cpos (starEach es X.env)).any (·.1) = false := by rfl) :
    PE X (.Call (.Attribute o name apos) (e :: es) [] cpos) (tBM X.K T r to t) := by
  intro pins s σ H Q I h
  refine wpAny_Call_method_late hbase hfew hline rfl (thn (ho pins s σ H _ I h) fun v s1 ⟨x, H1, I1, r1, ty, q1⟩ => ?_)
  obtain ⟨h1, h2⟩ := tyV_is I1 r1 ty
  refine ⟨T, id, pa, slot, hty, h1, h2, ?_⟩
  have hA := ha cpos pins s1 σ H1 _ I1 q1
  rw [hs] at hA ⊢
  refine Calls.callWith_builtin (by show (false || (backTo cpos (starEach es X.env)).any (·.1)) = false; rw [hplain] <;> rfl) (Calls.evalArgs_plain ?_)
  exact thn hA fun us s2 ⟨vs, H2, I2, r2, q2⟩ => hm pins s2 σ H2 x vs v us Q I2 r1 r2 q2
end
end L2
namespace L2
open PySem PySem.Spec PyProof.Rows
noncomputable def MtM (X : Cx) (id : String) (r : V → List V → Hp → VK → Prop) : Prop :=
  ∀ (pins : List (Addr × Obj)) (s : Shared) (σ : St) (H : Hp) (x : V) (xs : List V) (v : Value) (us : List Value) (Q : VK), Inv X pins σ H s → RelV x v → Vals xs us → r x xs H Q →
    wpAny (model X.prog X.w) X.A (call (.builtin id) (v :: us)) (EP X pins σ Q) X.xe s
theorem Vals.one : ∀ {x : V} {us : List Value}, Vals [x] us → ∃ u, us = [u] ∧ RelV x u
  | _, _, .cons r .nil => ⟨_, rfl, r⟩
theorem Vals.zero : ∀ {us : List Value}, Vals [] us → us = []
  | _, .nil => rfl
theorem Vals.reverse {xs : List V} {us : List Value} (h : Vals xs us) : Vals xs.reverse us.reverse := by
  induction h with
  | nil => exact .nil
  | cons r t ih => rw [List.reverse_cons, List.reverse_cons]; exact Vals.append ih (.cons r .nil)
section
variable {X : Cx} {pins : List (Addr × Obj)} {σ : St} {H : Hp} {s : Shared} {l b : Addr} {xs ys zs : List V}
theorem Inv.lset {its its' : List Value} {n : Nat} {f : Array Value → Array Value} {t' : Nat} (I : Inv X pins σ H s) (hH : H l = some (.lst xs))
    (e : s.heap.get? l = some { cls := .type "list", data := .seq its.toArray n }) (hf : f its.toArray = its'.toArray) (hv : Vals ys its') (hz : ys.length ≤ sizeLine) :
    Inv X pins σ (upd H l (.lst ys)) { s with heap := s.heap.update l (Obj.mapSeq f), toks := t' } := by
  have q := PySem.IsL.update e f
  rw [hf] at q
  refine I.write (x := l) (e := l) (by rw [hH]; exact trivial) (.inl rfl) (fun b' u hb hu => (Heap.get?_update_other s.heap (Obj.mapSeq f) (Ne.symm hb)).trans hu) ⟨_, q⟩ ?_
  exact ⟨hz, its', _, hv, q⟩
theorem Inv.fresh (I : Inv X pins σ H s) : H s.heap.objs.size = none := I.hok.fresh (Nat.le_refl _)
theorem Inv.lstM (I : Inv X pins σ H s) (hH : H l = some (.lst xs)) : xs.length ≤ sizeLine ∧ ∃ (its : List Value) (n : Nat), Vals xs its ∧ xs.length = its.length ∧ s.heap.get? l = some { cls := .type "list", data := .seq its.toArray n } := by
  obtain ⟨z, its, n, r, e⟩ := I.hok l _ hH
  exact ⟨z, its, n, r, r.length, e⟩
theorem notLongL {n : Nat} (h : n ≤ sizeLine) : Builtin.List.listTooLong n = false := by
  unfold Builtin.List.listTooLong
  exact decide_eq_false (by omega)
end
section
variable {X : Cx}
noncomputable def rAppend : V → List V → Hp → VK → Prop := fun x vs H Q => ∃ l xs y, x = .ref l ∧ vs = [y] ∧ H l = some (.lst xs) ∧ xs.length < sizeLine ∧ Q .non (upd H l (.lst (xs ++ [y])))
theorem mt_append : MtM X "list.append" rAppend := by
  intro pins s σ H x vs v us Q I rx rv h
  obtain ⟨l, xs, y, rfl, rfl, hH, hz, q⟩ := h
  cases rx
  obtain ⟨u, rfl, ru⟩ := rv.one
  obtain ⟨z, its, n, r, hl, e⟩ := I.lstM hH
  refine call_meets F.slot_list_append ⟨_, e, rfl⟩ F.entry_list_append (F.args_list_append_2 _ _) (PySem.list_append l its.toArray n u (by rw [List.size_toArray]; omega)) ⟨e, ?_⟩
  refine ⟨.non, _, I.lset (its' := its ++ [u]) hH e (by simp) (r.append (.cons ru .nil)) ?_, rfl, q⟩
  rw [List.length_append, List.length_singleton]
  omega
noncomputable def rExtend : V → List V → Hp → VK → Prop := fun x vs H Q => ∃ l b xs zs, x = .ref l ∧ vs = [.ref b] ∧ H l = some (.lst xs) ∧ H b = some (.lst zs) ∧ xs.length + zs.length ≤ sizeLine ∧ Q .non (upd H l (.lst (xs ++ zs)))
theorem mt_extend : MtM X "list.extend" rExtend := by
  intro pins s σ H x vs v us Q I rx rv h
  obtain ⟨l, b, xs, zs, rfl, rfl, hH, hB, hz, q⟩ := h
  cases rx
  obtain ⟨u, rfl, ru⟩ := rv.one
  cases ru
  obtain ⟨z, its, n, r, hl, e⟩ := I.lstM hH
  obtain ⟨z2, its2, n2, r2, hl2, e2⟩ := I.lstM hB
  have hsz : its.toArray.size + its2.toArray.size ≤ sizeLine := by rw [List.size_toArray, List.size_toArray]; omega
  have hlong : ¬ (!its.toArray.isEmpty && Builtin.List.listTooLong (its.toArray.size + its2.toArray.size)) = true := by
    rw [notLongL hsz, Bool.and_false]
    exact Bool.false_ne_true
  refine call_meets F.slot_list_extend ⟨_, e, rfl⟩ F.entry_list_extend (F.args_list_extend_2 _ _)
    (AutoSeq1.list_extend_list_list_0 l its.toArray n b its2.toArray n2 hlong (by rw [List.size_toArray]; omega) (by omega)) ⟨e, e2, ?_⟩
  refine ⟨.non, _, I.lset (its' := its ++ its2) hH e (by simp) (r.append r2) ?_, rfl, q⟩
  rw [List.length_append]
  omega
end
section
variable {prog : Program} {w : World} {A : Around} {E : Value → Shared → Prop} {s : Shared}
end
section
variable {X : Cx}
end
end L2
namespace Att
open PySem PySem.W PySem.Calls PyProof.Rows
theorem ints_of_wellAll {P : Params} {h : Heap} : ∀ (ns : List Int) (vs : List Value), WellAll P h vs (ns.map WData.int) → IntsAre vs ns := by
  intro ns
  induction ns with
  | nil =>
    intro vs w
    rw [List.map_nil] at w
    cases w
    exact .nil
  | cons n ns ih =>
    intro vs w
    rw [List.map_cons] at w
    cases w with
    | cons a b =>
      cases a
      exact .cons _ _ (ih _ b)
theorem script_of {l : OpenLaw} {n : Nat} (hn : l.most = some n) {P : Params} {h : Heap} {args : List WData} {vals : List Value}
    (hpre : l.row.toRowW.claim.pre args = true) (hwl : WellAll P h vals args) :
    ∃ a vs ns, vals = [Value.ref a] ∧ args = [WData.list (ns.map WData.int)] ∧ h.get? a = some { cls := .type "list", data := .seq vs.toArray } ∧ IntsAre vs ns ∧ ns.length ≤ n := by
  have hsh : WShape.hasAll [] args [.list .int] = true := (pre_splitW hpre).1
  have hc : l.pre.holds [] { args := args } = true := (pre_splitW hpre).2
  obtain ⟨d, r, rfl, h1, h2⟩ := hasAllW_cons hsh
  obtain rfl := hasAllW_nil h2
  obtain ⟨xs, rfl, h3⟩ := hasW_list h1
  obtain ⟨ns, rfl⟩ := items_int h3
  have hlen : ns.length ≤ n := by
    unfold OpenLaw.pre at hc
    have h4 : (WTm.not (.lt (.lit (.int (n : Int))) (.len (.arg 0)))).holds [] { args := [.list (ns.map .int)] } = true := by
      have h4 := (holds_andW hc).1
      rw [hn] at h4
      exact h4
    have h5 := condW_of h4 (w_not (w_lt w_lit (w_len_list (w_arg rfl))))
    rw [List.length_map] at h5
    refine Nat.le_of_not_lt fun q => ?_
    have q' : (n : Int) < ((ns.length : Nat) : Int) := by omega
    first
      | (rw [decide_eq_true q'] at h5; exact absurd h5 (by decide))
      | (simp at h5; omega)
  cases hwl with
  | cons w1 w2 =>
    cases w2
    cases w1 with
    | list ho hall => exact ⟨_, _, ns, rfl, rfl, ho, ints_of_wellAll ns _ hall, hlen⟩
theorem post_true (l : OpenLaw) (args : List WData) : l.row.toRowW.claim.post args (.bool true) args = true :=
  postW_of (r := l.row.toRowW) (X := (true == true))
    (show WShape.has [] (.bool true) .bool = true by first | rfl | decide | simp [WShape.has, WShape.arms, WShape.armsAll])
    (show (WTm.eq .res (.lit (.bool true))).value [] { args := args, res := some (.bool true), after := args } = some (.bool (true == true)) from w_eq_bool (w_res rfl) w_lit) rfl
section
variable {prog : Program} {w : World} {A : Around} {E : Value → Shared → Prop} {s : Shared} {K : Frag}
end
end Att
namespace L2
open PySem PySem.Spec PyProof.Rows
theorem vals_ints : ∀ {vs : List Value} {ns : List Int}, IntsAre vs ns → Vals (ns.map V.int) vs
  | _, _, .nil => .nil
  | _, _, .cons n t h => .cons ⟨t, rfl⟩ (vals_ints h)
noncomputable def Only (H : Hp) : Prop := ∀ b, H b = none ∨ ∃ o xs, H b = some (.frz o (.lst xs))
theorem law_call {P : Program} {w : World} {K : PySem.W.Frag} {mg mb : Str → Option Value} {CX : CXT} {k : Nat} {fa a : Addr} {fd : FuncData} {x : Str} {sp : Sp} {s₁ : Shared} {vs : List Value} {ns : List Int}
    (KX : K.In s₁.heap) (hns : s₁.heap.Ns mainGlobals mg) (hb : s₁.heap.Ns builtinsNs mb) (hbb : ∀ x : Str, x ≠ "__name__" → mb x = bootBuiltins x) (hlim : s₁.heap.NoLimit) (hg : s₁.gens = #[])
    (ha : s₁.heap.get? a = some { cls := .type "list", data := .seq vs.toArray }) (hi : IntsAre vs ns) (hl : ns.length ≤ sizeLine) (hr : Room k callerA)
    (F : ∀ base : Heap, K.In base → base.Ns mainGlobals mg → FnOk P w K mg base CX k fa fd [x] sp) (hbind : ∀ (s : Shared) (u : Value), BindsTo s fd ⟨[u], []⟩ [(x, u)])
    (hsp : ∀ H : Hp, Only H → SqL K H a (ns.map V.int) → sp [.ref a] H (fun v _ => v = .bl true) fun _ _ _ => False)
    (hCX : ∀ H e s', CX [] H s₁ (fun _ _ _ => False) e s' → False) :
    codeAny (model P w) callerA (.call (.ref fa) ⟨[.ref a], []⟩) (fun r s' => r = .ok (.ret (.bool true)) ∧ OldK s₁.heap s'.heap ∧ s'.os = s₁.os ∧ AllBare s'.gens) s₁ := by
  have rv := vals_ints hi
  have lenV := hi.length
  have core : ∀ H : Hp, Only H → SqL K H a (ns.map V.int) → HOk P w H s₁.heap → (∀ b, H b ≠ none → b = a) → (H a ≠ none → K.lookup a = none) →
      codeAny (model P w) callerA (.call (.ref fa) ⟨[.ref a], []⟩) (fun r s' => r = .ok (.ret (.bool true)) ∧ OldK s₁.heap s'.heap ∧ s'.os = s₁.os ∧ AllBare s'.gens) s₁ := by
    intro H hO hS hok hA hK
    have base_of : ∀ {b : Addr} {o : Obj}, s₁.heap.get? b = some o → H b = none → (hidT s₁.heap H).get? b = some o := fun e n => hidT_get e n
    have noA : ∀ {b : Addr} {o : Obj} {es : Array DictEntry} {ep : Nat}, s₁.heap.get? b = some o → o.data = .dict es ep → H b = none := fun {b o es ep} e d => by
      cases q : H b with
      | none => rfl
      | some u =>
        have e' : b = a := hA b (by rw [q]; simp)
        subst e'
        rw [ha] at e; cases e
        have d' : Data.seq vs.toArray _ = Data.dict es ep := d
        cases d'
    have nsK : ∀ {b : Addr} {m : Str → Option Value}, s₁.heap.Ns b m → (hidT s₁.heap H).Ns b m := fun {b m} ⟨o, es, ep, e, d, r⟩ => ⟨o, es, ep, base_of e (noA e d), d, r⟩
    have hKb : K.In (hidT s₁.heap H) := fun b o e => base_of (KX b o e) (by
      cases q : H b with
      | none => rfl
      | some u =>
        have e' : b = a := hA b (by rw [q]; simp)
        subst e'
        rw [hK (by rw [q]; simp)] at e; cases e)
    have hM : Mod K mg (hidT s₁.heap H) := ⟨hKb, nsK hns, ⟨mb, nsK hb, hbb⟩, let ⟨mc, h1, h2⟩ := hlim; ⟨mc, nsK h1, h2⟩⟩
    have e0 : Env0 P w K mg (hidT s₁.heap H) callerA [] s₁ H := ⟨rfl, hM, fun b o e => of_hidT e, Nat.le_of_eq (hidT_size _ _), trivial, fun b hb => absurd (show b ∈ ([] : List Addr) from hb) (by simp), hok, .of_eq hg⟩
    refine codeAny_mono ((F _ hKb (nsK hns)).run callerA [] s₁ H ⟨[.ref a], []⟩ [.ref a] [.ref a] _ _ hr e0 (hbind s₁ (.ref a)) (.cons rfl .nil) (hsp H hO hS)) fun r s' h => ?_
    cases r with
    | error e => exact (hCX H e s' h).elim
    | ok fl =>
      cases fl with
      | next => exact False.elim h
      | brk => exact False.elim h
      | cont => exact False.elim h
      | ret u =>
        obtain ⟨v, H', os, bare, un, hok', r', q⟩ := h
        have q' : v = .bl true := q
        subst q'
        obtain rfl : u = Value.bool true := r'
        refine ⟨rfl, OldK.of_keep fun b o e => ?_, os, bare⟩
        cases q : H b with
        | none => exact un.keep b o e q (by intro z; exact absurd (show b ∈ ([] : List Addr) from z) (by simp)) (by simp)
        | some u =>
          rcases hO b with z | ⟨ob, xs, z⟩
          · rw [q] at z; cases z
          · have z2 := un.frzs b ob _ z
            obtain ⟨e1, _⟩ := hok b _ z
            obtain ⟨e2, _⟩ := hok' b _ z2
            rw [e] at e1; cases e1
            exact e2
  cases hk : K.lookup a with
  | some o =>
    have e := KX a o hk
    rw [ha] at e
    cases e
    refine core (fun _ => none) (fun _ => .inl rfl) (.inr ⟨_, vs.toArray, _, hk, rfl, rfl, rfl, by rw [List.size_toArray, lenV]; exact hl, by simpa using rv⟩) (fun b u z => by have z' : (none : Option HO) = some u := z; cases z') (fun b z => absurd rfl z) fun z => absurd rfl z
  | none =>
    refine core (fun b => if b = a then some (.frz { cls := .type "list", data := .seq vs.toArray } (.lst (ns.map V.int))) else none) (fun b => ?_) (.inl (.inr ⟨{ cls := .type "list", data := .seq vs.toArray }, if_pos rfl⟩)) (fun b u z => ?_) (fun b z => ?_) fun _ => hk
    · by_cases hb : b = a
      · exact .inr ⟨_, _, if_pos hb⟩
      · exact .inl (if_neg hb)
    · by_cases hb : b = a
      · have z' := (if_pos hb).symm.trans z
        cases z'
        subst hb
        exact ⟨ha, by rw [List.length_map]; exact hl, vs, _, rv, ha⟩
      · have z' := (if_neg hb).symm.trans z
        cases z'
    · by_cases hb : b = a
      · exact hb
      · exact absurd (if_neg hb) z
end L2
namespace L2
open PySem PySem.Spec PyProof.Rows
end L2
namespace L2
open PySem PySem.Spec PyProof.Rows
noncomputable def defArgs (s : Stmt) : Arguments := match s with
  | .FunctionDef _ a _ _ _ _ _ _ _ _ => a
  | _ => { posonlyargs := [], args := [], vararg := none, kwonlyargs := [], kw_defaults := [], kwarg := none, defaults := [] }
noncomputable def defBody (s : Stmt) : List Stmt := match s with
  | .FunctionDef _ _ b _ _ _ _ _ _ _ => b
  | _ => []
noncomputable def defScope (s : Stmt) : Scope := match s with
  | .FunctionDef _ _ _ _ _ _ sc _ _ _ => sc
  | _ => { kind := .function, names := [], isGenerator := false, isCoroutine := false }
noncomputable abbrev CX0 : CXT := fun _ _ _ _ _ _ => False
noncomputable abbrev E0 : XK := fun _ _ _ => False
theorem pass0 {X : Cx} : Passes CX0 X E0 := fun _ _ _ _ _ _ _ h => h.elim
structure Fun (K : PySem.W.Frag) (x qual : Str) (st : Stmt) (f : Addr) (fd : FuncData) : Prop where
  ex : ∃ (oc : Value) (od : Option Addr) (kV doc pm : Value) (an : Option Addr) (cdv ct : Value) (osl : Array (Option Value)),
    fd = PySem.W.fnOf x qual (defArgs st) (defBody st) (defScope st) .none kV doc pm an cdv ct ∧ K.lookup f = some ⟨oc, od, .func fd, osl⟩ ∧ PySem.W.codeIn K cdv qual = true
  kp : PySem.W.keepIn K (.ref f) = true
section
variable {P : Program} {w : World} {K : PySem.W.Frag} {mg : Str → Option Value} {base : Heap}
theorem Fun.ok {x qual : Str} {st : Stmt} {f : Addr} {fd : FuncData} {N ps : List Str} {k : Nat} {sp : Sp} (F : Fun K x qual st f fd) (S : FnScope N ps (defScope st)) (len : ∀ vs H Q E, sp vs H Q E → vs.length = ps.length)
    (hbody : ∀ (cdv : Value) (A : Around) (outer : List Env) (s : Shared) (H : Hp) (vs : List V) (Q : VK) (E : XK), Room k (A.deeper (envOfC qual (defScope st) s.heap.objs.size f cdv)) → sp vs H Q E →
      ∃ t, PSs (cxOf CX0 P w K mg base N qual (defScope st) f cdv A outer s H E).nox (defBody st) t ∧ t { nx := fun _ H' => Q .non H', rt := Q } (start N vs) H) : FnOk P w K mg base CX0 (k + 1) f fd ps sp := by
  obtain ⟨oc, od, kV, doc, pm, an, cdv, ct, osl, rfl, lk, hcd⟩ := F.ex
  refine fn_of lk hcd S len fun A outer s H vs Q E hr hsp => ?_
  obtain ⟨t, h, q⟩ := hbody cdv A outer s H vs Q E hr hsp
  exact ⟨t, h.nox, q⟩
theorem Fun.binds {x qual : Str} {st : Stmt} {f : Addr} {fd : FuncData} {ps : List Str} (F : Fun K x qual st f fd)
    (h : ∀ (kV doc pm : Value) (an : Option Addr) (cdv ct : Value) (us : List Value), us.length = ps.length → bindArgs (PySem.W.fnOf x qual (defArgs st) (defBody st) (defScope st) .none kV doc pm an cdv ct) ⟨us, []⟩ = pure (ps.zip us)) : Binds K fd ps [] := by
  obtain ⟨oc, od, kV, doc, pm, an, cdv, ct, osl, rfl, lk, hcd⟩ := F.ex
  exact .all (h kV doc pm an cdv ct)
theorem fun_mk {x qual : Str} {st : Stmt} {f : Addr} {oc : Value} {od an : Option Addr} {osl : Array (Option Value)} {kV doc pm cdv ct : Value} (l : K.lookup f = some ⟨oc, od, .func (PySem.W.fnOf x qual (defArgs st) (defBody st) (defScope st) .none kV doc pm an cdv ct), osl⟩)
    (c : PySem.W.codeIn K cdv qual = true) (k : PySem.W.keepIn K (.ref f) = true) : Fun K x qual st f (PySem.W.fnOf x qual (defArgs st) (defBody st) (defScope st) .none kV doc pm an cdv ct) := ⟨⟨oc, od, kV, doc, pm, an, cdv, ct, osl, rfl, l, c⟩, k⟩
end
section
variable {X : Cx}
theorem pv (i : Nat) {x : Str} {pos : Pos} (hN : X.N[i]? = some x := by rfl) (hv : Vis X.env.scope x := by first | exact Or.inl rfl | exact Or.inr (Or.inl rfl) | exact Or.inr (Or.inr rfl)) (hd : (x == ("__debug__" : Str)) = false := by decide)
    (hcd : (x == ("__classdict__" : Str)) = false := by decide) : PE X (.Name x pos) (tVar i) := pe_var hN hv hd hcd
end
theorem iteF {A B : Prop} (h : B) : if false = true then A else B := by
  rw [if_neg Bool.false_ne_true]
  exact h
theorem iteT {A B : Prop} (h : A) : if true = true then A else B := by
  rw [if_pos rfl]
  exact h
theorem ite2 {c A B : Prop} [Decidable c] (h1 : c → A) (h2 : ¬ c → B) : if c then A else B := by
  by_cases h : c
  · rw [if_pos h]
    exact h1 h
  · rw [if_neg h]
    exact h2 h
noncomputable def Same (H H' : Hp) : Prop := ∀ b o, H b = some o → H' b = some o
theorem Same.refl (H : Hp) : Same H H := fun _ _ h => h
theorem Same.trans {H H1 H2 : Hp} (a : Same H H1) (b : Same H1 H2) : Same H H2 := fun c o h => b c o (a c o h)
theorem Same.free {H H' : Hp} (e : Same H H') {l : Addr} (h : H' l = Option.none) : H l = Option.none := by
  cases q : H l with
  | none => rfl
  | some o =>
    rw [e l o q] at h
    cases h
theorem Same.seq {K : PySem.W.Frag} {H H' : Hp} {a : Addr} {xs : List V} (e : Same H H') (h : SqL K H a xs) : SqL K H' a xs := by
  rcases h with (h | ⟨o, h⟩) | h
  · exact .inl (.inl (e _ _ h))
  · exact .inl (.inr ⟨o, e _ _ h⟩)
  · exact .inr h
end L2
set_option maxHeartbeats 4000000
namespace L2
open PySem PySem.Spec PyProof.Rows
section
variable {X : Cx}
noncomputable def Sml (i : Int) : Prop := i.natAbs < 2 ^ 4000
theorem Sml.bits {i : Int} (h : Sml i) : Builtin.Int.intBits i ≤ 4000 := intBits_le_iff.mpr h
theorem call_isinst : CallR X (.builtin "isinstance") (fun xs H Q => ∃ x t T b, xs = [x, .ty T] ∧ TyOf X.K H x t ∧ PySem.W.kitOne X.K t (.type T) = some b ∧ Q (.bl b) H) := by
  intro pins s σ H xs us Q I r h
  obtain ⟨x, t, T, b, rfl, ty, e, q⟩ := h
  obtain ⟨u, w', rfl, r1, r2⟩ := vals2 r
  cases r2
  exact isinst_ok I r1 ty e fun tk => ⟨.bl b, H, I.tok _, rfl, q⟩
theorem intItems_of : ∀ {ns : List Int} {us : List Value}, Vals (ns.map V.int) us → ∃ xs : Array (Int × Tok), us.toArray = intItems xs ∧ xs.toList.map (·.1) = ns := fun {ns us} r => by
  have hi : IntsAre us ns := intsAre_of r
  obtain ⟨xs, hx⟩ := hi.allInts.items
  refine ⟨xs, hx, ?_⟩
  rw [← nums_intItems, ← hx]
  exact (show numsOf us.toArray.toList = ns from hi.numsOf)
theorem call_sum (hc : X.calm = true) : CallR X (.builtin "sum") (fun xs H Q => ∃ (p : Addr) (ns : List Int), xs = [.ref p] ∧ SqL X.K H p (ns.map V.int) ∧ Q (.int ns.sum) H) := by
  intro pins s σ H xs us Q I r h
  obtain ⟨p, ns, rfl, hq, q⟩ := h
  obtain ⟨u, rfl, r1⟩ := vals1 r
  cases r1
  obtain ⟨its, rv, pl, hz⟩ := I.list hq
  obtain ⟨ys, hy, e1⟩ := intItems_of rv
  refine sum_intListG (I.ok.hd hc) (hy ▸ pl.isList) fun h' tk t' hk => ?_
  have e2 : preSum (numAt ys) ys.size = ns.sum := by
    rw [preSum_eq, List.take_of_length_le (by simp), e1]
  rw [e2]
  exact ⟨.int ns.sum, H, I.kept hk, ⟨_, rfl⟩, q⟩
end
theorem boot_min : bootBuiltins "min" = some (.builtin "min") := PyProof.Rows.boot_min
theorem boot_sum : bootBuiltins "sum" = some (.builtin "sum") := PyProof.Rows.boot_sum
theorem boot_abs : bootBuiltins "abs" = some (.builtin "abs") := PyProof.Rows.boot_abs
theorem boot_isinstance : bootBuiltins "isinstance" = some (.builtin "isinstance") := PyProof.Rows.boot_isinstance
theorem boot_int : bootBuiltins "int" = some (.type "int") := PyProof.Rows.boot_int
theorem boot_bool : bootBuiltins "bool" = some (.type "bool") := PyProof.Rows.boot_bool
theorem getD_in {α : Type} {ns : List α} {i : Nat} {d : α} (h : i < ns.length) : ns.getD i d = ns[i] := by simp [List.getD, h]
theorem getD_out {α : Type} {ns : List α} {i : Nat} {d : α} (h : ns.length ≤ i) : ns.getD i d = d := by simp [List.getD, h]
theorem same_new {H : Hp} {p : Addr} (h : H p = none) (o : HO) : Same H (upd H p o) := fun b u q => by rw [upd_ne (ne_of_none q h)]; exact q
theorem ofD {p : Prop} [Decidable p] (h : ¬ decide p = true) : ¬ p := of_decide_eq_false (Bool.eq_false_iff.mpr h)
theorem sub1 {cs : List (Str × Addr)} {x : Str} {c : Addr} (h : cs.lookup x = some c) : ∀ y c', [(x, c)].lookup y = some c' → cs.lookup y = some c' := fun y c' e => by
  by_cases z : y = x
  · subst z
    simp at e
    subst e
    exact h
  · have : (y == x) = false := by simpa using z
    simp [List.lookup, this] at e
theorem at_getD {ns : List Int} {i : Int} (h0 : 0 ≤ i) (h1 : i < (ns.length : Int)) : atI (ns.map V.int) i = some (.int (ns.getD i.toNat 0)) := by
  have hk : i.toNat < ns.length := by omega
  have ek : i = ((i.toNat : Nat) : Int) := by omega
  have z : atI (ns.map V.int) ((i.toNat : Nat) : Int) = some (.int ns[i.toNat]) := atI_nat (by rw [List.getElem?_map, List.getElem?_eq_getElem hk] <;> rfl)
  rw [← ek] at z
  rw [z, getD_in hk]
theorem md0 (c : Int) {m : Int} (h : 0 < m) : 0 ≤ c % m := Int.emod_nonneg _ (by omega)
theorem md1 (c : Int) {m : Int} (h : 0 < m) : c % m < m := Int.emod_lt_of_pos _ h
end L2
set_option maxHeartbeats 4000000
namespace L2
open PySem PySem.Spec PyProof.Rows
noncomputable def cxComp (X : Cx) (N' : List Str) (scope : Scope) (cl : List (Str × Addr)) (C : Addr) (s3 : Shared) (H3 : Hp) (fp : List Addr) : Cx where
  prog := X.prog
  w := X.w
  K := X.K
  mg := X.mg
  base := X.base
  A := X.A
  N := N'
  s₀ := s3
  H₀ := H3
  env := compEnvC scope cl C X.env
  outer := X.stack
  stack := X.stack
  ex := fp
  fn := fun _ => false
  calm := X.calm
  pn := []
  xe := fun _ _ => False
noncomputable def taken (σ : St) (fr : List Nat) : St := fr.map fun j => (σ[j]?).getD none
noncomputable def CompGo (J : It) (te : TE) (st : St) (D : Addr) (H1 : Hp) (Q : VK) : Prop :=
  ∃ W : Nat → Nat → List V → Hp → Prop, (∃ m, W 0 m [] (upd H1 D (.lst []))) ∧ ∀ i m ys H2, W i m ys H2 →
    (J.stop i H2 ∧ Q (.ref D) H2) ∨ (J.go i H2 ∧ ∀ x H3, J.yld i H2 x H3 → te (some x :: st) H3 fun y H4 => H4 D = some (.lst ys) ∧ ys.length < sizeLine ∧ ∃ m', m' < m ∧ W (i + 1) m' (ys ++ [y]) (upd H4 D (.lst (ys ++ [y]))))
noncomputable def tComp (wi : TI) (fr : List Nat) (te : TE) : TE := fun σ H Q => wi σ H fun J H1 => ∀ D, H1 D = none → CompGo J te (taken σ fr) D H1 Q
theorem compLoop_any {prog : Program} {w : World} {A : Around} {R : Result → Shared → Prop} {s : Shared} {elt tg iter : Expr} {scope : Scope} {pos : Pos} {it acc : Value} {env : Env} (Iv : Nat → Shared → Prop)
    (turn : ∀ k s, Iv k s → wpAny (model prog w) A (pyNext it) (fun r s1 => match r with
      | none => R (.ok .next) s1
      | some v => wpAny (model prog w) A (letOwnedTupleGo tg it v) (fun _ s2 => wpAny (model prog w) A (assign tg env v) (fun _ s3 => wpAny (model prog w) A (eval elt env) (fun y s4 =>
          wpAny (model prog w) A (call (.builtin "list.append") [acc, y]) (fun _ s5 => ∃ m, m < k ∧ Iv m s5) (fun _ _ => False) s4) (fun _ _ => False) s3) (fun _ _ => False) s2) (fun _ _ => False) s1) (fun _ _ => False) s)
    (k : Nat) (h : Iv k s) : codeAny (model prog w) A (.compLoop (.ListComp elt [⟨tg, iter, [], 0⟩] scope pos) 0 it acc env) R s := by
  refine codeAny_loop rfl Iv (fun k s hI => ?_) k h
  show wpAny _ _ ((compTurn (.ListComp elt [⟨tg, iter, [], 0⟩] scope pos) 0 it acc env).onRaise (fun e => do noteFrame e env; theTreesLotGoes e)) _ _ s
  refine wpAny_noted ?_
  rw [compTurn_list1]
  refine wpAny_bind (wpAny_standAt (wpAny_bind (wpAny_mono (turn k s hI) (fun r s1 h1 => ?_) fun _ _ f => f.elim)))
  cases r with
  | none => exact wpAny_pure h1
  | some v =>
    exact wpAny_bind (wpAny_mono h1 (fun _ s2 h2 => wpAny_bind (wpAny_mono h2 (fun _ s3 h3 => wpAny_bind (wpAny_bind (wpAny_mono h3 (fun y s4 h4 => wpAny_bind (wpAny_mono h4
      (fun _ s5 h5 => wpAny_pure (wpAny_pure ⟨rfl, h5⟩)) fun _ _ f => f.elim)) fun _ _ f => f.elim))) fun _ _ f => f.elim)) fun _ _ f => f.elim)
theorem comp_range {lo : Int} {n : Nat} {te : TE} {st : St} {H1 : Hp} {Q : VK} {D : Addr} (f : Nat → V) (hD : H1 D = none) (hn : n ≤ sizeLine)
    (hs : ∀ (i : Nat) (H2 : Hp) (k : VK), i < n → Same H1 H2 → (∀ H4, Same H2 H4 → k (f i) H4) → te (some (.int (lo + i)) :: st) H2 k)
    (hd : ∀ H2, Same H1 H2 → H2 D = some (.lst ((List.range n).map f)) → Q (.ref D) H2) : CompGo (Itr lo n) te st D H1 Q := by
  have same : ∀ {H2 : Hp} {o : HO}, Same H1 H2 → Same H1 (upd H2 D o) := fun {H2 o} h b u e => by rw [upd_ne (ne_of_none e hD)]; exact h b u e
  refine ⟨fun i m ys H2 => m = n - i ∧ i ≤ n ∧ ys = (List.range i).map f ∧ Same H1 H2 ∧ H2 D = some (.lst ys), ⟨n, by simp, Nat.zero_le _, rfl, same (Same.refl H1), upd_same⟩, ?_⟩
  rintro i m ys H2 ⟨rfl, hi, rfl, sm, e⟩
  by_cases hlt : i < n
  · refine .inr ⟨hlt, fun x H3 y => ?_⟩
    obtain ⟨e1, e2⟩ := y
    subst e1 e2
    have ln : ((List.range i).map f).length = i := by rw [List.length_map, List.length_range]
    refine hs i _ _ hlt sm fun H4 s4 => ⟨s4 _ _ e, by rw [ln]; omega, n - (i + 1), by omega, rfl, hlt, ?_, same (sm.trans s4), upd_same⟩
    rw [List.range_succ, List.map_append] <;> rfl
  · have ei : i = n := by omega
    subst ei
    exact .inl ⟨Nat.le_refl _, hd _ sm e⟩
structure CompOk (X : Cx) (x : Str) (ts : List (Str × Nat)) (scope : Scope) (cl : List (Str × Addr)) : Prop where
  clos : closureFor scope X.env = pure cl
  sub : ∀ y c, cl.lookup y = some c → X.env.cells.lookup y = some c
  nocell : (scope.names.all fun p => p.2 != .cell) = true
  kind : scope.kind = .function
  locs : (scope.names.all fun p => p.2 != .local || scope.names.lookup p.1 == some .local) = true
  var : scope.names.lookup x = some .local
  nd : (x :: ts.map (·.1)).Nodup
  around : (ts.all fun p => decide (X.N[p.2]? = some p.1) && (X.env.kindOf p.1 == some .cell || X.env.kindOf p.1 == some .free) && (cl.lookup p.1).isSome &&
    ((relabel scope X.env).names.lookup p.1 == some .cell || (relabel scope X.env).names.lookup p.1 == some .free)) = true
  has : ((relabel scope X.env).names.all fun p => !(p.2 == .cell || p.2 == .free) || (cl.lookup p.1).isSome) = true
noncomputable abbrev nmsOf (x : Str) (ts : List (Str × Nat)) : List Str := x :: ts.map (·.1)
noncomputable abbrev sltOf (ts : List (Str × Nat)) : List Nat := ts.map (·.2)
theorem CompOk.nocell' {X : Cx} {x : Str} {ts : List (Str × Nat)} {scope : Scope} {cl : List (Str × Addr)} (O : CompOk X x ts scope cl) : ∀ y ∈ scope.names, y.2 ≠ .cell := fun y hy e => by
  have := List.all_eq_true.mp O.nocell y hy
  rw [e] at this
  cases this
theorem CompOk.locs' {X : Cx} {x : Str} {ts : List (Str × Nat)} {scope : Scope} {cl : List (Str × Addr)} (O : CompOk X x ts scope cl) : ∀ y ∈ scope.names, y.2 = .local → scope.names.lookup y.1 = some .local := fun y hy e => by
  have h := List.all_eq_true.mp O.locs y hy
  rw [e] at h
  rcases Bool.or_eq_true_iff.mp h with z | z
  · cases z
  · exact beq_iff_eq.mp z
theorem CompOk.from' {X : Cx} {x : Str} {ts : List (Str × Nat)} {scope : Scope} {cl : List (Str × Addr)} (O : CompOk X x ts scope cl) : ∀ (i : Nat) (y : Str), (nmsOf x ts)[i + 1]? = some y → ∃ j, (sltOf ts)[i]? = some j ∧ X.N[j]? = some y ∧ (X.env.kindOf y = some .cell ∨ X.env.kindOf y = some .free) ∧ (cl.lookup y).isSome = true ∧
    ((relabel scope X.env).names.lookup y = some .cell ∨ (relabel scope X.env).names.lookup y = some .free) := fun i y e => by
  have e1 : (ts.map (·.1))[i]? = some y := by simpa using e
  rw [List.getElem?_map] at e1
  cases q : ts[i]? with
  | none => rw [q] at e1; cases e1
  | some p =>
    rw [q] at e1
    have e2 : p.1 = y := Option.some.inj e1
    subst e2
    have h := List.all_eq_true.mp O.around p (List.mem_of_getElem? q)
    simp only [Bool.and_eq_true, Bool.or_eq_true, beq_iff_eq, decide_eq_true_eq] at h
    obtain ⟨⟨⟨h1, h2⟩, h3⟩, h4⟩ := h
    refine ⟨p.2, ?_, h1, h2, h3, h4⟩
    show (ts.map (·.2))[i]? = some p.2
    rw [List.getElem?_map, q] <;> rfl
theorem CompOk.has' {X : Cx} {x : Str} {ts : List (Str × Nat)} {scope : Scope} {cl : List (Str × Addr)} (O : CompOk X x ts scope cl) : ∀ y, ((relabel scope X.env).names.lookup y = some .cell ∨ (relabel scope X.env).names.lookup y = some .free) → (cl.lookup y).isSome = true := fun y h => by
  have go : ∀ k : NameKind, (k = .cell ∨ k = .free) → (relabel scope X.env).names.lookup y = some k → (cl.lookup y).isSome = true := fun k hk e => by
    have z := List.all_eq_true.mp O.has (y, k) (PySem.mem_of_lookup e)
    rcases Bool.or_eq_true_iff.mp z with z | z
    · rcases hk with e | e <;> (rw [e] at z; cases z)
    · exact z
  rcases h with h | h
  · exact go _ (.inl rfl) h
  · exact go _ (.inr rfl) h
section
variable {X : Cx} {elt iter : Expr} {x : Str} {px pos : Pos} {scope : Scope} {cl : List (Str × Addr)} {ts : List (Str × Nat)} {wi : TI} {te : TE}
theorem comp_ok {pins : List (Addr × Obj)} {σ : St} {H3 : Hp} {s3 : Shared} {fp : List Addr} (O : CompOk X x ts scope cl) (I3 : Inv X pins σ H3 s3) (hfp : ∀ b ∈ fp, FpOk X pins H3 b ∧ b < s3.heap.objs.size) :
    (cxComp X (nmsOf x ts) scope cl s3.heap.objs.size s3 H3 fp).Ok where
  mod := I3.ok.mod
  kind := O.kind
  glob := I3.ok.glob
  blt := I3.ok.blt
  above := Nat.le_refl _
  inj := fun y z c h1 h2 => I3.ok.inj y z c (O.sub y c h1) (O.sub z c h2)
  has := fun y h => Option.isSome_iff_exists.mp (O.has' y h)
  cab := fun y c h => by cases h
  hd := I3.ok.hd
  frames := I3.ok.frames
  stk := .inl rfl
  exf := fun b hb => ⟨Nat.ne_of_lt (hfp b hb).2, fun y c e => (hfp b hb).1.2.2.2.2.1 y c (O.sub y c e)⟩
  bs := fun b o e => I3.bs b o e
  bsz := Nat.le_trans I3.ok.bsz I3.sz
  noex := fun b o e hb => by
    rcases (hfp b hb).1.2.2.2.1 with z | z
    · exact I3.ok.noex b o e z
    · exact absurd (Nat.lt_of_lt_of_le (Heap.lt_size (I3.ok.bs b o e).1) z) (Nat.lt_irrefl _)
  exfs := fun b hb hz => by
    rcases List.mem_cons.mp (I3.stkSub b hz) with e | e
    · exact (hfp b hb).1.2.1 e
    · exact (hfp b hb).1.2.2.1 e
  funs := I3.stack
  frf := I3.stkFree
theorem comp_start {pins : List (Addr × Obj)} {σ : St} {H3 : Hp} {s3 : Shared} {fp : List Addr} {h1 : Heap} {tk : Nat} (O : CompOk X x ts scope cl) (I3 : Inv X pins σ H3 s3) (hfp : ∀ b ∈ fp, FpOk X pins H3 b ∧ b < s3.heap.objs.size)
    (hns : h1.Ns s3.heap.objs.size fun _ => none) (old : ∀ b o, s3.heap.get? b = some o → h1.get? b = some o) :
    Inv (cxComp X (nmsOf x ts) scope cl s3.heap.objs.size s3 H3 fp) [] (none :: taken σ (sltOf ts)) H3 { s3 with heap := h1, toks := tk } := by
  refine ⟨comp_ok O I3 hfp, rfl, I3.bare, Un.kept old, ⟨_, hns, fun i y v e1 e2 e3 => ?_⟩, fun y c e => ?_, I3.hok.fresh (Nat.le_refl _), fun y c e => I3.freeC y c (O.sub y c e), fun p hp => absurd (show p ∈ ([] : List (Addr × Obj)) from hp) (by simp), I3.hok.kept old, ?_⟩
  · cases i with
    | zero => simp at e2
    | succ i =>
      obtain ⟨j, hj, hN, hk, hcl, hk2⟩ := O.from' i y e1
      have e2' : σ[j]? = some (some v) := by
        have q : (taken σ (sltOf ts))[i]? = some (some v) := by simpa using e2
        unfold taken at q
        rw [List.getElem?_map, hj] at q
        have q' : (σ[j]?).getD none = some v := Option.some.inj q
        cases z : σ[j]? with
        | none => rw [z] at q'; cases q'
        | some w => rw [z] at q'; rw [show w = some v from q']
      obtain ⟨m, hn, hl⟩ := I3.loc
      have vis : Vis X.env.scope y := hk.elim (fun z => .inr (.inl z)) fun z => .inr (.inr z)
      obtain ⟨u, r, l⟩ := hl j y v hN e2' vis
      obtain ⟨c, hc⟩ := Option.isSome_iff_exists.mp hcl
      refine ⟨u, r, .inr ⟨hk2, c, hc, ?_⟩⟩
      rcases l with ⟨k, _⟩ | ⟨_, c', hc', z⟩
      · rcases hk with hk | hk
        · rw [k] at hk; cases hk
        · rw [k] at hk; cases hk
      · rw [O.sub y c hc] at hc'
        cases hc'
        obtain ⟨o, ho, hd⟩ := z
        exact ⟨o, old c o ho, hd⟩
  · obtain ⟨v, o, ho, hd⟩ := I3.cell y c (O.sub y c e)
    exact ⟨v, o, old c o ho, hd⟩
  · show (none :: taken σ (sltOf ts)).length = (nmsOf x ts).length
    simp [taken]
theorem pe_comp (hc : X.calm = true) (O : CompOk X x ts scope cl) (hi : PI X (.Name x px) iter wi) (he : ∀ C s3 H3 fp, PE (cxComp X (nmsOf x ts) scope cl C s3 H3 fp) elt te)
    (hs : ∀ x, foldedSetIterable iter X.env x = pure x := by intro _; rfl) : PE X (.ListComp elt [⟨.Name x px, iter, [], 0⟩] scope pos) (tComp wi (sltOf ts) te) := by
  intro pins s σ H Q I h
  rw [eval_ListComp]
  refine wpAny_comprehension_free (use := none) rfl hs O.clos O.kind O.locs' (thn (hi pins s σ H _ I h) fun v s1 h1 => thn h1 fun itv s2 h2 => ?_)
  obtain ⟨it, fp, tn, J, H2, rfl, I2, T, st2, f2, q⟩ := h2
  have hD : H2 s2.heap.objs.size = none := I2.hok.fresh (Nat.le_refl _)
  obtain ⟨W, ⟨m0, w0⟩, turn⟩ := q s2.heap.objs.size hD
  refine wpAny_newObj_type ?_
  have I3 : Inv X pins σ (upd H2 s2.heap.objs.size (.lst [])) { s2 with heap := s2.heap.push { cls := .type "list", dict := none, data := .seq ([] : List Value).toArray } } :=
    I2.laid (a := s2.heap.objs.size) (o := .lst []) (t' := s2.toks) (fun b u e => Heap.get?_push_of_some _ e) (Nat.le_refl _) ⟨Nat.zero_le _, [], 0, .nil, Heap.get?_push_size _ rfl⟩
  generalize hs3 : ({ s2 with heap := s2.heap.push { cls := .type "list", dict := none, data := .seq ([] : List Value).toArray } } : Shared) = s3 at I3
  have sz3 : s3.heap.objs.size = s2.heap.objs.size + 1 := by rw [← hs3, Heap.size_push]
  have old3 : ∀ b u, s2.heap.get? b = some u → s3.heap.get? b = some u := fun b u e => by rw [← hs3]; exact Heap.get?_push_of_some _ e
  generalize hH3 : upd H2 s2.heap.objs.size (.lst []) = H3 at I3 w0
  have H3D : H3 s2.heap.objs.size = some (.lst []) := by rw [← hH3]; exact upd_same
  have fp2 : ∀ b ∈ fp, b < s2.heap.objs.size := fun b hb => by
    obtain ⟨o, e, _⟩ := T.obj _ _ st2 b hb
    exact Heap.lt_size e
  have hfp : ∀ b ∈ fp, FpOk X pins H3 b ∧ b < s3.heap.objs.size := fun b hb => by
    refine ⟨⟨?_, (f2 b hb).2⟩, by rw [sz3]; exact Nat.lt_succ_of_lt (fp2 b hb)⟩
    rw [← hH3, upd_ne (Nat.ne_of_lt (fp2 b hb))]
    exact (f2 b hb).1
  refine wpAny_newFunctionEnv O.nocell' (by intro y hy; simp at hy) (fun h₁ hns₁ hsb₁ => ?_) O.kind
  have old : ∀ b o, s3.heap.get? b = some o → h₁.get? b = some o := fun b o e => hsb₁.extBut b o (Nat.ne_of_lt (Heap.lt_size e)) (Heap.get?_push_of_some _ e)
  have start : Inv (cxComp X (nmsOf x ts) scope cl s3.heap.objs.size s3 H3 fp) [] (none :: taken σ (sltOf ts)) H3 { s3 with heap := h₁, toks := s3.toks + 0 } := comp_start O I3 hfp hns₁ old
  have st4 : tn 0 h₁ := T.keep _ _ _ st2 fun b hb o e => old b o (old3 b o e)
  have okX : ∀ {H' : Hp}, (∀ b ∈ fp, H' b = none) → ∀ b ∈ fp, FpOk (cxComp X (nmsOf x ts) scope cl s3.heap.objs.size s3 H3 fp) [] H' b := fun hn b hb => by
    refine ⟨hn b hb, Nat.ne_of_lt (hfp b hb).2, fun z => ?_, .inl hb, fun y c e => (f2 b hb).2.2.2.2.1 y c (O.sub y c e), fun p hp => absurd (show p ∈ ([] : List (Addr × Obj)) from hp) (by simp)⟩
    rcases List.mem_cons.mp (I3.stkSub b z) with e | e
    · exact (f2 b hb).2.1 e
    · exact (f2 b hb).2.2.1 e
  have loop : ∀ s₄ : Shared, s₄ = { s3 with heap := h₁, toks := s3.toks + 0 } →
      codeAny (model X.prog X.w) X.A (.compLoop (.ListComp elt [⟨.Name x px, iter, [], 0⟩] scope pos) 0 (.ref it) (.ref s2.heap.objs.size) (compEnvC scope cl s3.heap.objs.size X.env))
        (compPost (model X.prog X.w) X.A X.xe none (EP X pins σ Q) (.ref s2.heap.objs.size) s3.heap.objs.size) s₄ := by
    rintro s₄ rfl
    refine compLoop_any (fun n s' => ∃ i ys σ0 H', Inv (cxComp X (nmsOf x ts) scope cl s3.heap.objs.size s3 H3 fp) [] (σ0 :: taken σ (sltOf ts)) H' s' ∧ tn i s'.heap ∧ (∀ b ∈ fp, H' b = none) ∧ W i n ys H') ?_ m0
      ⟨0, [], none, H3, start, st4, fun b hb => (hfp b hb).1.1, w0⟩
    rintro n s5 ⟨i, ys, σ0, H5, I5, st5, fr5, w5⟩
    rcases turn i n ys H5 w5 with ⟨stop, qn⟩ | ⟨go, step⟩
    · refine thn (T.done (cxComp X (nmsOf x ts) scope cl s3.heap.objs.size s3 H3 fp) rfl rfl rfl hc i [] s5 (σ0 :: taken σ (sltOf ts)) H5 _ I5 (okX fr5) st5 stop) fun r s6 ⟨hr, I6⟩ => ?_
      subst hr
      obtain ⟨m, hn, _⟩ := id I6.loc
      refine ⟨m, hn, fun h' sb => ?_⟩
      have u6 : Un (frs X.stack) fp H3 H5 s3.heap s6.heap := I6.base
      have neC : ∀ b o, s3.heap.get? b = some o → b ≠ s3.heap.objs.size := fun b o e => Nat.ne_of_lt (Heap.lt_size e)
      have un : Un (frs X.stack) fp H3 H5 s3.heap h' := ⟨fun b o e n1 hb hx => (sb.2 b (neC b o e)).trans (u6.keep b o e n1 hb hx), fun b o e n1 hb hx => by
          obtain ⟨sl, z⟩ := u6.slot b o e n1 hb hx
          exact ⟨sl, (sb.2 b (neC b o e)).trans z⟩, u6.free, fun b o e hx => by
          obtain ⟨o', z⟩ := u6.there b o e hx
          exact ⟨o', (sb.2 b (neC b o e)).trans z⟩, u6.tups, u6.frzs, u6.tbls⟩
      have hok : HOk X.prog X.w H5 h' := fun b u e => by
        refine (I6.hok b u e).stay (fun c v hc' z => (sb.2 c ?_).trans z) (fun _ z => z) fun _ _ z => z
        rintro rfl
        have fC : H5 s3.heap.objs.size = none := I6.free
        rcases hc' with z' | z'
        · rw [← z', fC] at e; cases e
        · rw [fC] at z'; cases z'
      refine ⟨.ref s2.heap.objs.size, H5, I3.call' (s' := { s6 with heap := h' }) (ch := fp) ?_ un hok I6.bare (fun b hb => ⟨(f2 b hb).2.2.2.1, (f2 b hb).2.1, (f2 b hb).2.2.2.2.1, (f2 b hb).2.2.2.2.2⟩), rfl, qn⟩
      exact I6.os
    · refine thn (T.item (cxComp X (nmsOf x ts) scope cl s3.heap.objs.size s3 H3 fp) rfl rfl rfl hc i [] s5 (σ0 :: taken σ (sltOf ts)) H5 _ I5 (okX fr5) st5 go) fun r s6 ⟨u, hr, h6⟩ => ?_
      subst hr
      refine thn h6 fun _ s7 ⟨z, H7, I7, rz, yz, st7, fr7⟩ => ?_
      have I7' := I7.pinned (okX fr7) (T.obj _ _ st7)
      have PG' : PG (cxComp X (nmsOf x ts) scope cl s3.heap.objs.size s3 H3 fp) (.Name x px) (gName 0) := pg_name (i := 0) O.nd rfl (.inl (lookup_relabel_local O.var)) (.inr (lookup_relabel_local O.var))
      refine thn (PG' _ s7 _ H7 z u (fun σ' H' => σ' = some z :: taken σ (sltOf ts) ∧ H' = H7) I7' rz ⟨rfl, rfl⟩) fun _ s8 ⟨σ8, H8, I8, e8, eh8⟩ => ?_
      subst e8 eh8
      refine thn (he s3.heap.objs.size s3 H3 fp _ s8 _ H8 _ I8 (step z H8 yz)) fun y s9 ⟨vy, H9, I9, ry, hD9, hl9, m', hm', w9⟩ => ?_
      refine thn (mt_append (X := cxComp X (nmsOf x ts) scope cl s3.heap.objs.size s3 H3 fp) _ s9 _ H9 (.ref s2.heap.objs.size) [vy] (.ref s2.heap.objs.size) [y] (fun _ H10 => H10 = upd H9 s2.heap.objs.size (.lst (ys ++ [vy]))) I9 rfl (.cons ry .nil) ⟨_, ys, vy, rfl, rfl, hD9, hl9, rfl⟩) fun _ s10 ⟨_, H10, I10, _, e10⟩ => ?_
      subst e10
      refine ⟨m', hm', i + 1, ys ++ [vy], some z, _, I10.unpinned, T.keep _ _ _ st7 fun b hb o e => (I10.pin (b, o) (List.mem_append_right _ (List.mem_append_right _ (mem_pinsAt hb e)))).1, fun b hb => ?_, w9⟩
      obtain ⟨o, e, d⟩ := T.obj _ _ st7 b hb
      exact (I10.pin (b, o) (List.mem_append_right _ (List.mem_append_right _ (mem_pinsAt hb e)))).2.1
  have hst := codeAny_compStart_list (loop _ rfl) (T.self X.A 0 _ _ _ st4 (loop _ rfl))
  exact hst
end
end L2
set_option maxHeartbeats 4000000
namespace L2
open PySem PySem.Spec PyProof.Rows
inductive Th where
  | non | bl (b : Bool) | int (i : Int) | str (x : Str) | lst (xs : List Th) | tup (xs : List Th) | emp | dic
mutual
noncomputable def Den (H : Hp) : Th → V → Prop
  | .non, v => v = .non
  | .bl b, v => v = .bl b
  | .int i, v => v = .int i
  | .str x, v => v = .str x
  | .lst ts, v => ∃ a xs, v = .ref a ∧ H a = some (.lst xs) ∧ Dens H ts xs
  | .tup ts, v => ∃ a xs, v = .ref a ∧ H a = some (.tup xs) ∧ Dens H ts xs
  | .emp, v => ∃ a, v = .ref a ∧ H a = some (.dK [])
  | .dic, v => ∃ a kvs, v = .ref a ∧ H a = some (.dK kvs)
noncomputable def Dens (H : Hp) : List Th → List V → Prop
  | [], xs => xs = []
  | t :: ts, xs => ∃ y ys, xs = y :: ys ∧ Den H t y ∧ Dens H ts ys
end
mutual
theorem Den.keep {H H' : Hp} (s : Same H H') : ∀ {t : Th} {v : V}, Den H t v → Den H' t v
  | .non, _, h => h
  | .bl _, _, h => h
  | .int _, _, h => h
  | .str _, _, h => h
  | .lst _, _, ⟨a, xs, e, h, d⟩ => ⟨a, xs, e, s _ _ h, Dens.keep s d⟩
  | .tup _, _, ⟨a, xs, e, h, d⟩ => ⟨a, xs, e, s _ _ h, Dens.keep s d⟩
  | .emp, _, ⟨a, e, h⟩ => ⟨a, e, s _ _ h⟩
  | .dic, _, ⟨a, k, e, h⟩ => ⟨a, k, e, s _ _ h⟩
theorem Dens.keep {H H' : Hp} (s : Same H H') : ∀ {ts : List Th} {xs : List V}, Dens H ts xs → Dens H' ts xs
  | [], _, h => h
  | _ :: _, _, ⟨y, ys, e, d, ds⟩ => ⟨y, ys, e, Den.keep s d, Dens.keep s ds⟩
end
theorem Dens.len {H : Hp} : ∀ {ts : List Th} {xs : List V}, Dens H ts xs → xs.length = ts.length
  | [], _, h => by rw [show _ = [] from h]; rfl
  | _ :: _, _, ⟨y, ys, e, d, ds⟩ => by rw [e, List.length_cons, List.length_cons, Dens.len ds]
theorem Dens.get {H : Hp} : ∀ {ts : List Th} {xs : List V} {i : Nat} {t : Th}, Dens H ts xs → ts[i]? = some t → ∃ v, xs[i]? = some v ∧ Den H t v
  | _ :: _, _, 0, t, ⟨y, ys, e, d, ds⟩, h => by
    rw [List.getElem?_cons_zero] at h
    cases h
    exact ⟨y, by rw [e]; rfl, d⟩
  | _ :: _, _, i + 1, t, ⟨y, ys, e, d, ds⟩, h => by
    rw [List.getElem?_cons_succ] at h
    obtain ⟨v, h1, h2⟩ := Dens.get ds h
    exact ⟨v, by rw [e, List.getElem?_cons_succ]; exact h1, h2⟩
noncomputable def tyTh : Th → Value
  | .non => .type "NoneType"
  | .bl _ => .type "bool"
  | .int _ => .type "int"
  | .str _ => .type "str"
  | .lst _ => .type "list"
  | .tup _ => .type "tuple"
  | .emp => .type "dict"
  | .dic => .type "dict"
theorem Den.ty {K : PySem.W.Frag} {H : Hp} : ∀ {t : Th} {v : V}, Den H t v → TyOf K H v (tyTh t)
  | .non, _, h => by cases (show _ = V.non from h); exact .non
  | .bl b, _, h => by cases (show _ = V.bl b from h); exact .bl b
  | .int i, _, h => by cases (show _ = V.int i from h); exact .int i
  | .str x, _, h => by cases (show _ = V.str x from h); exact .str x
  | .lst _, _, ⟨a, xs, e, h, _⟩ => by subst e; exact .lst h
  | .tup _, _, ⟨a, xs, e, h, _⟩ => by subst e; exact .tup h
  | .emp, _, ⟨a, e, h⟩ => by subst e; exact .dK h
  | .dic, _, ⟨a, k, e, h⟩ => by subst e; exact .dK h
noncomputable def isIntT : Th → Bool
  | .int _ => true
  | .bl _ => true
  | _ => false
noncomputable def isBoolT : Th → Bool
  | .bl _ => true
  | _ => false
theorem kit_int {K : PySem.W.Frag} (t : Th) : PySem.W.kitOne K (tyTh t) (.type "int") = some (isIntT t) := by cases t <;> rfl
theorem kit_bool {K : PySem.W.Frag} (t : Th) : PySem.W.kitOne K (tyTh t) (.type "bool") = some (isBoolT t) := by cases t <;> rfl
section
variable {X : Cx}
theorem call_isinstD : CallR X (.builtin "isinstance") (fun xs H Q => ∃ x t T b, xs = [x, .ty T] ∧ Den H t x ∧ PySem.W.kitOne X.K (tyTh t) (.type T) = some b ∧ Q (.bl b) H) := by
  intro pins s σ H xs us Q I r h
  obtain ⟨x, t, T, b, e, d, k, q⟩ := h
  exact call_isinst pins s σ H xs us Q I r ⟨x, tyTh t, T, b, e, d.ty, k, q⟩
theorem range_all_true (n : Nat) : ((List.range n).all fun _ => true) = true := List.all_eq_true.mpr fun _ _ => rfl
theorem dict_nil_any {P P' : Program} {w w' : World} {h : Heap} {a : Addr} (d : h.DictOf (mixKind P w) a []) : h.DictOf (mixKind P' w') a [] := by
  obtain ⟨o, es, ep, h1, h2, h3, h4, h5, h6⟩ := d
  have e : es = #[] := by
    have hl : es.toList.length = 0 := by
      have := h5.length
      simpa using this
    cases es with | mk l => cases l with
      | nil => rfl
      | cons x r => simp at hl
  subst e
  exact ⟨o, #[], ep, h1, h2, h3, (by intro z hz; simp at hz), .nil, List.nodup_nil⟩
mutual
noncomputable def depT : Th → Nat
  | .lst ts => depTs ts + 1
  | .tup ts => depTs ts + 1
  | .emp => 1
  | .dic => cLine + 1
  | .non | .bl _ | .int _ | .str _ => 0
noncomputable def depTs : List Th → Nat
  | [] => 0
  | t :: ts => max (depT t) (depTs ts)
end
theorem depTs_mem : ∀ {ts : List Th} {i : Nat} {t : Th}, ts[i]? = some t → depT t ≤ depTs ts
  | _ :: _, 0, _, h => by
    rw [List.getElem?_cons_zero] at h
    cases h
    exact Nat.le_max_left _ _
  | _ :: _, _ + 1, _, h => by
    rw [List.getElem?_cons_succ] at h
    exact Nat.le_trans (depTs_mem h) (Nat.le_max_right _ _)
theorem dens_at {H : Hp} {ts : List Th} {xs ys : List V} {us ws : List Value} (d1 : Dens H ts xs) (d2 : Dens H ts ys) (r1 : Vals xs us) (r2 : Vals ys ws) (j : Nat) (h1 : j < us.toArray.size) (h2 : j < ws.toArray.size) :
    ∃ t v1 v2, ts[j]? = some t ∧ Den H t v1 ∧ Den H t v2 ∧ RelV v1 us.toArray[j] ∧ RelV v2 ws.toArray[j] := by
  have hl : j < ts.length := by
    rw [← d1.len, r1.length]
    simpa using h1
  obtain ⟨v1, e1, q1⟩ := d1.get (List.getElem?_eq_getElem hl)
  obtain ⟨v2, e2, q2⟩ := d2.get (List.getElem?_eq_getElem hl)
  obtain ⟨u1, f1, g1⟩ := r1.get e1
  obtain ⟨u2, f2, g2⟩ := r2.get e2
  have k1 : us.toArray[j] = u1 := by
    have : us[j]? = some us.toArray[j] := by simp
    rw [this] at f1; exact Option.some.inj f1
  have k2 : ws.toArray[j] = u2 := by
    have : ws[j]? = some ws.toArray[j] := by simp
    rw [this] at f2; exact Option.some.inj f2
  exact ⟨ts[j], v1, v2, List.getElem?_eq_getElem hl, q1, q2, by rw [k1]; exact g1, by rw [k2]; exact g2⟩
theorem eqDen {P : Program} {w : World} {H : Hp} {s : Shared} (hok : HOk P w H s.heap) : ∀ (n : Nat) (A : Around) (t : Th) (v1 v2 : V) (u1 u2 : Value), depT t ≤ n → A.units + n < cLine → Den H t v1 → Den H t v2 → RelV v1 u1 → RelV v2 u2 → SeqAt.EqAt A s u1 u2 true
  | n, A, .non, v1, v2, u1, u2, _, _, d1, d2, r1, r2 => by
    cases (show v1 = V.non from d1); cases (show v2 = V.non from d2)
    cases (show u1 = Value.none from r1); cases (show u2 = Value.none from r2)
    exact SeqAt.EqAt.same _
  | n, A, .bl b, v1, v2, u1, u2, _, _, d1, d2, r1, r2 => by
    cases (show v1 = V.bl b from d1); cases (show v2 = V.bl b from d2)
    cases (show u1 = Value.bool b from r1); cases (show u2 = Value.bool b from r2)
    exact SeqAt.EqAt.same _
  | n, A, .int i, v1, v2, u1, u2, _, _, d1, d2, r1, r2 => by
    cases (show v1 = V.int i from d1); cases (show v2 = V.int i from d2)
    obtain ⟨k1, rfl⟩ := (show ∃ k, u1 = Value.int i k from r1)
    obtain ⟨k2, rfl⟩ := (show ∃ k, u2 = Value.int i k from r2)
    have h := SeqAt.EqAt.int_int (A := A) (s := s) i k1 i k2
    rw [beq_self_eq_true] at h
    exact h
  | n, A, .str x, v1, v2, u1, u2, _, _, d1, d2, r1, r2 => by
    cases (show v1 = V.str x from d1); cases (show v2 = V.str x from d2)
    obtain ⟨k1, rfl⟩ := (show ∃ k, u1 = Value.str x k from r1)
    obtain ⟨k2, rfl⟩ := (show ∃ k, u2 = Value.str x k from r2)
    have h := SeqAt.EqAt.str_str (A := A) (s := s) x k1 x k2
    rw [beq_self_eq_true] at h
    exact h
  | 0, A, .lst ts, v1, v2, u1, u2, hd, _, d1, d2, r1, r2 => absurd hd (by simp [depT])
  | 0, A, .tup ts, v1, v2, u1, u2, hd, _, d1, d2, r1, r2 => absurd hd (by simp [depT])
  | 0, A, .emp, v1, v2, u1, u2, hd, _, d1, d2, r1, r2 => absurd hd (by simp [depT])
  | 0, A, .dic, v1, v2, u1, u2, hd, _, d1, d2, r1, r2 => absurd hd (by simp [depT])
  | n + 1, A, .dic, v1, v2, u1, u2, hd, hu, d1, d2, r1, r2 => absurd (show cLine + 1 ≤ n + 1 from hd) (by omega)
  | n + 1, A, .lst ts, v1, v2, u1, u2, hd, hu, d1, d2, r1, r2 => by
    obtain ⟨a1, xs, rfl, h1, e1⟩ := d1
    obtain ⟨a2, ys, rfl, h2, e2⟩ := d2
    cases (show u1 = Value.ref a1 from r1); cases (show u2 = Value.ref a2 from r2)
    by_cases hne : a1 = a2
    · subst hne; exact SeqAt.EqAt.same _
    obtain ⟨_, us, n1, q1, g1⟩ := (show ObjOk P w H s.heap a1 (.lst xs) from hok a1 _ h1)
    obtain ⟨_, ws, n2, q2, g2⟩ := (show ObjOk P w H s.heap a2 (.lst ys) from hok a2 _ h2)
    have hsz : us.toArray.size = ws.toArray.size := by
      rw [List.size_toArray, List.size_toArray, ← q1.length, ← q2.length, e1.len, e2.len]
    have hd' : depTs ts + 1 ≤ n + 1 := hd
    have h := SeqAt.RcAt.lists (A := A) (s := s) (e := fun _ => true) (⟨_, g1, rfl, _, rfl⟩ : s.heap.IsList a1 us.toArray) (⟨_, g2, rfl, _, rfl⟩ : s.heap.IsList a2 ws.toArray) hsz (by omega) fun j j1 j2 => by
      obtain ⟨t, w1, w2, ht, p1, p2, s1, s2⟩ := dens_at e1 e2 q1 q2 j j1 j2
      exact eqDen hok n A.in1 t w1 w2 _ _ (by have := depTs_mem ht; omega) (by show A.units + 1 + n < cLine; omega) p1 p2 s1 s2
    rw [range_all_true] at h
    exact SeqAt.EqAt.of_refs hne h
  | n + 1, A, .tup ts, v1, v2, u1, u2, hd, hu, d1, d2, r1, r2 => by
    obtain ⟨a1, xs, rfl, h1, e1⟩ := d1
    obtain ⟨a2, ys, rfl, h2, e2⟩ := d2
    cases (show u1 = Value.ref a1 from r1); cases (show u2 = Value.ref a2 from r2)
    by_cases hne : a1 = a2
    · subst hne; exact SeqAt.EqAt.same _
    obtain ⟨_, us, q1, g1⟩ := (show ObjOk P w H s.heap a1 (.tup xs) from hok a1 _ h1)
    obtain ⟨_, ws, q2, g2⟩ := (show ObjOk P w H s.heap a2 (.tup ys) from hok a2 _ h2)
    have hsz : us.toArray.size = ws.toArray.size := by
      rw [List.size_toArray, List.size_toArray, ← q1.length, ← q2.length, e1.len, e2.len]
    have hd' : depTs ts + 1 ≤ n + 1 := hd
    have h := SeqAt.RcAt.tuples (A := A) (s := s) (e := fun _ => true) (show s.heap.IsTuple a1 us.toArray from g1) (show s.heap.IsTuple a2 ws.toArray from g2) (by omega) fun j j1 j2 => by
      obtain ⟨t, w1, w2, ht, p1, p2, s1, s2⟩ := dens_at e1 e2 q1 q2 j j1 j2
      exact eqDen hok n A.in1 t w1 w2 _ _ (by have := depTs_mem ht; omega) (by show A.units + 1 + n < cLine; omega) p1 p2 s1 s2
    rw [range_all_true, hsz, beq_self_eq_true, Bool.and_self] at h
    exact SeqAt.EqAt.of_refs hne h
  | n + 1, A, .emp, v1, v2, u1, u2, hd, hu, d1, d2, r1, r2 => by
    obtain ⟨a1, rfl, h1⟩ := d1
    obtain ⟨a2, rfl, h2⟩ := d2
    cases (show u1 = Value.ref a1 from r1); cases (show u2 = Value.ref a2 from r2)
    by_cases hne : a1 = a2
    · subst hne; exact SeqAt.EqAt.same _
    obtain ⟨_, m1, vs1, q1, g1⟩ := (show ObjOk P w H s.heap a1 (.dK []) from hok a1 _ h1)
    obtain ⟨_, m2, vs2, q2, g2⟩ := (show ObjOk P w H s.heap a2 (.dK []) from hok a2 _ h2)
    cases q1
    cases q2
    refine SeqAt.EqAt.of_refs hne fun prog w' E Q hq => ?_
    exact PySem.W.keq_eq (K := Key) (knd := mixKind prog w') (r := true) m1 m2 (dict_nil_any g1) (dict_nil_any g2) (by omega) (fun _ => .nil) hq
theorem op_neD (hu : X.A.units + 64 < cLine) : OpR X (compareOp .NotEq) (fun x y H Q => ∃ t, Den H t x ∧ Den H t y ∧ depT t ≤ 60 ∧ Q (.bl false) H) := by
  intro pins s σ H x y v u Q I rx ry h
  obtain ⟨t, d1, d2, hd, q⟩ := h
  have scal_case : scal x y = true → x = y → wpAny (model X.prog X.w) X.A (compareOp .NotEq v u) (EP X pins σ Q) X.xe s := fun h1 h2 =>
    op_ne pins s σ H x y v u Q I rx ry ⟨h1, by rw [decide_eq_true h2]; exact q⟩
  cases t with
  | non => cases (show x = V.non from d1); cases (show y = V.non from d2); exact scal_case rfl rfl
  | bl b => cases (show x = V.bl b from d1); cases (show y = V.bl b from d2); exact scal_case rfl rfl
  | int i => cases (show x = V.int i from d1); cases (show y = V.int i from d2); exact scal_case rfl rfl
  | str z => cases (show x = V.str z from d1); cases (show y = V.str z from d2); exact scal_case rfl rfl
  | lst ts =>
    obtain ⟨a1, xs, rfl, h1, e1⟩ := d1
    obtain ⟨a2, ys, rfl, h2, e2⟩ := d2
    cases (show v = Value.ref a1 from rx); cases (show u = Value.ref a2 from ry)
    obtain ⟨_, us, n1, q1, g1⟩ := (show ObjOk X.prog X.w H s.heap a1 (.lst xs) from I.hok a1 _ h1)
    obtain ⟨_, ws, n2, q2, g2⟩ := (show ObjOk X.prog X.w H s.heap a2 (.lst ys) from I.hok a2 _ h2)
    have hsz : us.toArray.size = ws.toArray.size := by
      rw [List.size_toArray, List.size_toArray, ← q1.length, ← q2.length, e1.len, e2.len]
    have hd' : depTs ts + 1 ≤ 60 := hd
    have h := SeqAt.RcNeAt.lists (A := X.A) (s := s) (e := fun _ => true) (⟨_, g1, rfl, _, rfl⟩ : s.heap.IsList a1 us.toArray) (⟨_, g2, rfl, _, rfl⟩ : s.heap.IsList a2 ws.toArray) hsz (by omega) fun j j1 j2 => by
      obtain ⟨t, w1, w2, ht, p1, p2, s1, s2⟩ := dens_at e1 e2 q1 q2 j j1 j2
      exact eqDen I.hok 60 X.A.in1 t w1 w2 _ _ (by have := depTs_mem ht; omega) (by show X.A.units + 1 + 60 < cLine; omega) p1 p2 s1 s2
    rw [range_all_true] at h
    exact h X.prog X.w _ _ ⟨.bl false, H, I, rfl, q⟩
  | tup ts =>
    obtain ⟨a1, xs, rfl, h1, e1⟩ := d1
    obtain ⟨a2, ys, rfl, h2, e2⟩ := d2
    cases (show v = Value.ref a1 from rx); cases (show u = Value.ref a2 from ry)
    obtain ⟨_, us, q1, g1⟩ := (show ObjOk X.prog X.w H s.heap a1 (.tup xs) from I.hok a1 _ h1)
    obtain ⟨_, ws, q2, g2⟩ := (show ObjOk X.prog X.w H s.heap a2 (.tup ys) from I.hok a2 _ h2)
    have hsz : us.toArray.size = ws.toArray.size := by
      rw [List.size_toArray, List.size_toArray, ← q1.length, ← q2.length, e1.len, e2.len]
    have hd' : depTs ts + 1 ≤ 60 := hd
    have h := SeqAt.RcNeAt.tuples (A := X.A) (s := s) (e := fun _ => true) (show s.heap.IsTuple a1 us.toArray from g1) (show s.heap.IsTuple a2 ws.toArray from g2) (by omega) fun j j1 j2 => by
      obtain ⟨t, w1, w2, ht, p1, p2, s1, s2⟩ := dens_at e1 e2 q1 q2 j j1 j2
      exact eqDen I.hok 60 X.A.in1 t w1 w2 _ _ (by have := depTs_mem ht; omega) (by show X.A.units + 1 + 60 < cLine; omega) p1 p2 s1 s2
    rw [range_all_true, hsz, beq_self_eq_true, Bool.and_self] at h
    exact h X.prog X.w _ _ ⟨.bl false, H, I, rfl, q⟩
  | emp =>
    obtain ⟨a1, rfl, h1⟩ := d1
    obtain ⟨a2, rfl, h2⟩ := d2
    cases (show v = Value.ref a1 from rx); cases (show u = Value.ref a2 from ry)
    obtain ⟨_, m1, vs1, q1, g1⟩ := (show ObjOk X.prog X.w H s.heap a1 (.dK []) from I.hok a1 _ h1)
    obtain ⟨_, m2, vs2, q2, g2⟩ := (show ObjOk X.prog X.w H s.heap a2 (.dK []) from I.hok a2 _ h2)
    cases q1
    cases q2
    exact PySem.W.keq_ne (K := Key) (knd := mixKind X.prog X.w) (r := true) m1 m2 g1 g2 (by omega) (fun _ => .nil) ⟨.bl false, H, I, rfl, q⟩
  | dic => exact absurd (show cLine + 1 ≤ 60 from hd) (by omega)
end
end L2
set_option maxHeartbeats 4000000
namespace L2
open PySem PySem.Spec PyProof.Rows
theorem ObjOk.there {P : Program} {w : World} {H : Hp} {h : Heap} {a : Addr} {o : HO} (k : ObjOk P w H h a o) : ∃ ob, h.get? a = some ob := by
  cases o with
  | lst _ => obtain ⟨_, _, _, _, e⟩ := k; exact ⟨_, e⟩
  | tup _ => obtain ⟨_, _, _, o, e, _⟩ := k; exact ⟨o, e⟩
  | dK _ => obtain ⟨_, _, _, _, o, _, _, e, _⟩ := k; exact ⟨o, e⟩
  | dT _ => obtain ⟨_, _, _, _, o, _, _, e, _⟩ := k; exact ⟨o, e⟩
  | set _ _ => obtain ⟨o, _, _, _, e, _⟩ := k; exact ⟨o, e⟩
  | ins _ _ _ => obtain ⟨_, _, _, e, _⟩ := k; exact ⟨_, e⟩
  | own _ => obtain ⟨o, e⟩ := k; exact ⟨o, e⟩
  | xd _ => obtain ⟨_, ⟨o, _, _, e, _⟩, _⟩ := k; exact ⟨o, e⟩
  | rng _ _ => obtain ⟨_, _, _, e⟩ := k; exact ⟨_, e⟩
  | frz _ _ => obtain ⟨e, _⟩ := k; exact ⟨_, e⟩
  | tbl _ => exact ⟨_, k⟩
  | met _ _ => exact ⟨_, k⟩
  | ext _ => obtain ⟨_, ⟨o, e⟩, _⟩ := k; exact ⟨o, e⟩
noncomputable def Fly (l : List Env) (h0 : Heap) (H' : Hp) (e : Addr) (cls : Value) (h : Heap) : Prop :=
  ∃ (B : Heap) (t : Addr), Heap.FlyingW B l e cls (.ref t) h ∧ h0.get? e = none ∧ H' e = none ∧
    ∀ b o, h.get? b = some o → ((∃ o', h0.get? b = some o') ∨ ∃ u, H' b = some u) → b ∉ frs l → B.get? b = some o
noncomputable def CXX (P : Program) (w : World) : CXT := fun outer H s E e s' =>
  ∃ a cls H', e = .ref a ∧ s'.os = s.os ∧ AllBare s'.gens ∧ Un (frs outer) [] H H' s.heap s'.heap ∧ HOk P w H' s'.heap ∧ Fly outer s.heap H' a cls s'.heap ∧ E cls none H'
theorem cxx_never {P : Program} {w : World} {H : Hp} {s : Shared} {e : Value} {s' : Shared} {l : List Env} (h : CXX P w l H s (fun _ _ _ => False) e s') : False := by
  obtain ⟨_, _, _, _, _, _, _, _, _, q⟩ := h
  exact q
theorem fly_keeps {P : Program} {w : World} {fs : List Addr} {l : List Env} {base B h0 h h5 : Heap} {H H' : Hp} (un : Un fs [] H H' h0 h) (hok : HOk P w H' h)
    (kB : ∀ b o, h.get? b = some o → ((∃ o', h0.get? b = some o') ∨ ∃ u, H' b = some u) → b ∉ frs l → B.get? b = some o)
    (ff : h.FunFrames base l) (hfs : ∀ b ∈ fs, b ∈ frs l) (hl : ∀ b ∈ frs l, b ∉ fs → h0.get? b = none) (hu : ∀ b ∈ frs l, H' b = none)
    (st : B.StaysIn h5) (up : h.UpToSlots h5) : Un fs [] H H' h0 h5 ∧ HOk P w H' h5 := by
  have kk : ∀ b o, h.get? b = some o → (∃ o', h0.get? b = some o') → b ∉ fs → h5.get? b = some o := fun b o e1 ⟨o', e0⟩ hb => by
    refine st b o (kB b o e1 (.inl ⟨o', e0⟩) fun z => ?_)
    rw [hl b z hb] at e0; cases e0
  have ks : ∀ b o, h.get? b = some o → b ∈ fs → ∃ sl, h5.get? b = some { o with slots := sl } := fun b o e1 hb => by
    obtain ⟨_, o2, e2, nf⟩ := ff.mem (hfs b hb)
    rw [e1] at e2; cases e2
    exact up b o e1 nf
  refine ⟨⟨fun b o e n hb hx => kk b o (un.keep b o e n hb hx) ⟨o, e⟩ hb, fun b o e n hb hx => ?_, un.free, fun b o e hx => ?_, un.tups, un.frzs, un.tbls⟩, fun a o e => ?_⟩
  · obtain ⟨s1, e1⟩ := un.slot b o e n hb hx
    obtain ⟨s2, e2⟩ := ks b _ e1 hb
    exact ⟨s2, e2⟩
  · obtain ⟨o', e1⟩ := un.there b o e hx
    by_cases hb : b ∈ fs
    · obtain ⟨s2, e2⟩ := ks b _ e1 hb
      exact ⟨_, e2⟩
    · exact ⟨o', kk b o' e1 ⟨o, e⟩ hb⟩
  · have tr : ∀ b u v, H' b = some u → h.get? b = some v → h5.get? b = some v := fun b u v q e1 => st b v (kB b v e1 (.inr ⟨u, q⟩) fun z => by rw [hu b z] at q; cases q)
    refine (hok a o e).stay (fun b v hb q => ?_) (fun _ q => q) fun _ _ q => q
    rcases hb with z | z
    · subst z; exact tr b o v e q
    · exact tr b _ v z q
structure DefCx (X : Cx) : Prop where
  st : X.stack = X.env :: X.outer
  fr : X.env.frame = some X.env.locals
  ex : X.ex = []
section
variable {X : Cx} {pins : List (Addr × Obj)} {σ : St} {H : Hp} {s : Shared} {E : XK} {M : Model}
theorem Inv.gone (I : Inv X pins σ H s) (dx : DefCx X) {e : Addr} (n : s.heap.get? e = none) : X.s₀.heap.get? e = none ∧ H e = none := by
  constructor
  · cases q : X.s₀.heap.get? e with
    | none => rfl
    | some o =>
      obtain ⟨o', z⟩ := I.base.there e o q (by rw [dx.ex]; simp)
      rw [n] at z; cases z
  · cases q : H e with
    | none => rfl
    | some u =>
      obtain ⟨o', z⟩ := (I.hok e u q).there
      rw [n] at z; cases z
theorem Inv.notMine (I : Inv X pins σ H s) {b : Addr} {o : Obj} (e : X.s₀.heap.get? b = some o) : b ≠ X.env.locals := Nat.ne_of_lt (Nat.lt_of_lt_of_le (Heap.lt_size e) I.ok.above)
theorem fly_out (dx : DefCx X) (I : Inv X pins σ H s) {B h' : Heap} {e t : Addr} {cls : Value}
    (kB : ∀ b o, s.heap.get? b = some o → ((∃ o', X.s₀.heap.get? b = some o') ∨ ∃ u, H b = some u) → b ∉ frs X.stack → B.get? b = some o)
    (fw : Heap.FlyingW B X.outer e cls (.ref t) h') (up : s.heap.UpToSlots h') (ne : X.s₀.heap.get? e = none) (hn : H e = none) (q : E cls none H) :
    CXX X.prog X.w X.outer X.H₀ X.s₀ E (.ref e) { s with heap := h' } := by
  have un0 : Un X.fs [] X.H₀ H X.s₀.heap s.heap := by have := I.base; rw [dx.ex] at this; exact this
  have sub : ∀ b ∈ X.fs, b ∈ frs X.stack := fun b hb => by
    rw [dx.st]; unfold frs; rw [List.filterMap_cons, dx.fr]; exact List.mem_cons_of_mem _ hb
  have hl : ∀ b ∈ frs X.stack, b ∉ X.fs → X.s₀.heap.get? b = none := fun b hb hn => by
    rcases List.mem_cons.mp (I.stkSub b hb) with z | z
    · cases q : X.s₀.heap.get? b with
      | none => rfl
      | some o => exact absurd z (I.notMine q)
    · exact absurd z hn
  obtain ⟨un, hok⟩ := fly_keeps (h5 := h') un0 I.hok kB I.stack sub hl I.stkFree fw.1 up
  refine ⟨e, cls, H, rfl, I.os, I.bare, un, hok, ⟨B, t, fw, ne, hn, fun b o e1 hz hb => ?_⟩, q⟩
  have there : ∃ o2, s.heap.get? b = some o2 := by
    rcases hz with ⟨o', z⟩ | ⟨u, z⟩
    · exact un0.there b o' z (by simp)
    · exact (I.hok b u z).there
  have nst : b ∉ frs X.stack := fun z => by
    rcases List.mem_cons.mp (I.stkSub b z) with y | y
    · rcases hz with ⟨o', q⟩ | ⟨u, q⟩
      · exact I.notMine q y
      · rw [I.stkFree b z] at q; cases q
    · exact hb y
  obtain ⟨o2, e2⟩ := there
  have e3 := kB b o2 e2 hz nst
  have e4 := fw.1 b o2 e3
  have e1' : h'.get? b = some o := e1
  rw [e1'] at e4
  cases e4
  exact e3
theorem leave_made (dx : DefCx X) (I : Inv X pins σ H s) {h1 : Heap} {e : Addr} {cls : Value} {args : List Value} (mk : Heap.MadeExcOf s.heap h1 e cls args) (q : E cls none H) {E' : Value → Shared → Prop} :
    wpAny M X.A (leaving X.env (.ref e)) (fun _ s2 => CXX X.prog X.w X.outer X.H₀ X.s₀ E (.ref e) s2) E' { s with heap := h1 } := by
  have hin : ∀ env ∈ X.stack, ∀ b, env.frame = some b → b ∈ frs X.stack := fun env he b hb => List.mem_filterMap.mpr ⟨env, he, hb⟩
  have ff := PySem.W.funFrames_hide I.stack hin
  rw [dx.st] at ff
  obtain ⟨n1, n2⟩ := I.gone dx mk.new
  refine wpAny_leaves_madeW (base := PySem.W.hideAll s.heap (frs (X.env :: X.outer))) (h := s.heap) (by rw [I.ok.frames, dx.st]) dx.fr (fun b o z => PySem.W.of_hideAll _ z) ff mk fun h' t x1 _ _ x4 => ?_
  exact fly_out dx I (fun b o e1 _ hb => PySem.W.hideAll_get _ e1 (by rw [← dx.st]; exact hb)) x1 ((Heap.UpToSlots.of_keeps mk.keeps).trans x4) n1 n2 q
end
end L2
set_option maxHeartbeats 4000000
namespace L2
open PySem PySem.Spec PyProof.Rows
abbrev vbm : List Value := [.type "ValueError", .type "Exception", .type "BaseException", .type "object"]
theorem cls_of {K : PySem.W.Frag} {h : Heap} {C : Addr} {nid : String} {bmB : List Value} (kin : K.In h) (z : PySem.W.excIn K C bmB nid = true) :
    ∃ (tl : List Value) (N : Addr) (nm qn : Str) (bs : List Value) (hd : Bool) (sn : List Str) (su : List Value) (ab : Bool) (co : Option Bool) (dd : Option Addr) (k0 k1 k2 k3 k5 : Option Value) (mN : Str → Option Value),
      h.get? C = some (excClassObj nm qn C N bs tl hd sn su ab co dd k0 k1 k2 k3 k5 nid) ∧ h.Ns N mN ∧ mN "__init__" = none ∧ OwnTail h bmB tl := by
  unfold PySem.W.excIn at z
  split at z
  · rename_i d0 c0 slt lk
    split at z
    · rename_i C2 tl a0 a1 a2 a3 nn a5 em es
      simp only [Bool.and_eq_true, beq_iff_eq, Bool.not_eq_true'] at z
      obtain ⟨⟨⟨⟨⟨y1, y2⟩, y3⟩, y4⟩, y5⟩, y6⟩ := z
      subst y1 y2
      obtain ⟨nm, bs, mr, ns, qn, hd, sn, su, ab, co, de⟩ := c0
      dsimp only at em y3 y5 y6
      subst em y3
      have sz : slt = #[a0, a1, a2, a3, some (.builtin nn), a5] := by
        cases slt with | mk l => exact congrArg Array.mk es
      subst sz
      exact ⟨tl, ns, nm, qn, bs, hd, sn, su, ab, co, d0, a0, a1, a2, a3, a5, _, kin _ _ lk, .of_isNs (PySem.W.isNs_of_in kin y5), PySem.W.nsMap_none_of_in kin y5 y6, PySem.W.tail_of_in kin y4⟩
    · cases z
  · cases z
structure XCls (K : PySem.W.Frag) (mg : Str → Option Value) (x : Str) (C : Addr) : Prop where
  at_ : mg x = some (.ref C)
  ok : PySem.W.excIn K C vbm "ValueError.__new__" = true
section
variable {X : Cx} {E : XK} {x : Str} {C : Addr} {np cpos pos : Pos} {e : Expr} {es : List Expr} {t : TA}
noncomputable def Reach (X : Cx) (E : XK) : Prop := ∀ (pins : List (Addr × Obj)) (σ : St) (H : Hp) (s : Shared) (h1 : Heap) (e : Addr) (cls : Value) (args : List Value), Inv X pins σ H s → Heap.MadeExcOf s.heap h1 e cls args → E cls none H → X.xe (.ref e) { s with heap := h1 }
noncomputable def tRaise (C : Addr) (E : XK) (t : TA) : TS := fun _ σ H => t σ H fun vs H1 => vs.length ≤ sizeLine ∧ E (.ref C) none H1
theorem ps_raise (hr : Reach X E) (hc : X.calm = true) (xc : XCls X.K X.mg x C) (hg : Gl X x) (ha : PA X (e :: es) t)
    (hdb : (x == ("__debug__" : Str)) = false := by decide) (he : starEach (e :: es) X.env = (false, eval e X.env) :: starEach es X.env := by rfl) (hpl : (backTo cpos (starEach es X.env)).any (·.1) = false := by rfl) :
    PS X (.Raise (some (.Call (.Name x np) (e :: es) [] cpos)) none pos) (tRaise C E t) := by
  intro pins s σ H D I h
  obtain ⟨tl, N, nm, qn, bs, hd, sn, su, ab, co, dd, k0, k1, k2, k3, k5, mN, hC, hN, hni, T⟩ := cls_of I.mod.kin xc.ok
  refine wpAny_Raise_call_subT (C := C) (nm := nm) (q := qn) (N := N) (bs := bs) (bm := tl) (hdct := hd) (sn := sn) (sub := su) (ab := ab) (col := co) (dd := dd) (k0 := k0) (k1 := k1) (k2 := k2) (k3 := k3) (k5 := k5)
    PySem.F.excBase_ValueError (mN := mN) (T.hasType PySem.F.excBase_ValueError.hasBase) (I.ok.hd hc) (by rw [he]; show (false || _) = false; exact hpl) hni (ld_glob I hg xc.at_ ⟨rfl, ?_⟩ hdb)
  have h2 := ha cpos pins s σ H _ I h
  rw [he] at h2 ⊢
  exact Calls.evalArgs_plain (wpAny_mono h2 (fun us s2 ⟨vs, H1, I1, rv, hl, q⟩ => ⟨rfl, by rw [← rv.length]; exact hl, I1.bk _ _ hC, hN.keeps I1.bk, T.keeps I1.bk, fun h' e mk => hr pins σ H1 s2 h' e _ us I1 mk q⟩) fun _ _ y => y)
end
section
variable {P : Program} {w : World} {K : PySem.W.Frag} {mg : Str → Option Value} {base : Heap} {N : List Str} {qual : Str} {scope : Scope} {f : Addr} {cd : Value} {A : Around} {outer : List Env} {s : Shared} {H : Hp} {E : XK}
theorem dxOf {CX : CXT} : DefCx (cxOf CX P w K mg base N qual scope f cd A outer s H E) := ⟨rfl, rfl, rfl⟩
theorem reachOf : Reach (cxOf (CXX P w) P w K mg base N qual scope f cd A outer s H E) E := fun _ _ _ _ _ _ _ _ I mk q => leave_made dxOf I mk q
theorem Fun.okX {x : Str} {st : Stmt} {fd : FuncData} {ps : List Str} {k : Nat} {sp : Sp} (F : Fun K x qual st f fd) (S : FnScope N ps (defScope st)) (len : ∀ vs H Q E, sp vs H Q E → vs.length = ps.length)
    (hbody : ∀ (cdv : Value) (A : Around) (outer : List Env) (s : Shared) (H : Hp) (vs : List V) (Q : VK) (E : XK), Room k (A.deeper (envOfC qual (defScope st) s.heap.objs.size f cdv)) → sp vs H Q E →
      ∃ t, PSs (cxOf (CXX P w) P w K mg base N qual (defScope st) f cdv A outer s H E) (defBody st) t ∧ t { nx := fun _ H' => Q .non H', rt := Q } (start N vs) H) : FnOk P w K mg base (CXX P w) (k + 1) f fd ps sp := by
  obtain ⟨oc, od, kV, doc, pm, an, cdv, ct, osl, rfl, lk, hcd⟩ := F.ex
  exact fn_of lk hcd S len fun A outer s H vs Q E hr hsp => hbody cdv A outer s H vs Q E hr hsp
end
theorem FnOk.calm {P : Program} {w : World} {K : PySem.W.Frag} {mg : Str → Option Value} {base : Heap} {CX : CXT} {k : Nat} {f : Addr} {fd : FuncData} {ps : List Str} {sp : Sp} (F : FnOk P w K mg base CX0 k f fd ps sp) : FnOk P w K mg base CX k f fd ps sp :=
  ⟨F.len, fun A outer s H args us vs Q E hr he hb hv hs => codeAny_mono (F.run A outer s H args us vs Q E hr he hb hv hs) fun r s' h => by
    cases r with
    | ok fl => cases fl <;> exact h
    | error e => exact False.elim h⟩
section
variable {X : Cx}
theorem PS.nox {st : Stmt} {t : TS} (h : PS X.nox st t) : PS X st t := fun pins s σ H D I hw =>
  wpAny_mono (h pins s σ H D (I.wish _) hw) (fun _ _ q => q.unwish) fun _ _ z => z.elim
end
end L2
set_option maxHeartbeats 4000000
namespace L2
open PySem PySem.Spec PyProof.Rows
section
variable {X : Cx} {pins pins' : List (Addr × Obj)} {σ : St} {H : Hp} {s : Shared} {xe : Value → Shared → Prop} {e : Addr} {oe : Obj}
end
section
variable {X : Cx} {CX : CXT} {k : Nat} {f : Addr} {fd : FuncData} {ps : List Str} {sp : Sp} {dvs : List V} {ds : List Value} {E : St → XK} {x : Str} {p pos : Pos} {e : Expr} {es : List Expr} {t : TA}
end
structure Catch (K : PySem.W.Frag) (CS : Addr) : Prop where
  ty : PySem.W.typeIn K (.ref CS) = some (.type "type")
  isc : PySem.W.isClsIn K CS = true
  base : PySem.W.subIn K (.ref CS) (.type "BaseException") = some true
end L2
set_option maxHeartbeats 4000000
namespace L2
open PySem PySem.Spec PyProof.Rows
noncomputable def Bg (i : Int) : Prop := Builtin.Int.intBits i ≤ 1048576
theorem Bg.le {i j : Int} (h : Bg i) (hj : j.natAbs ≤ i.natAbs) : Bg j := intBits_le_iff.mpr (Nat.lt_of_le_of_lt hj (intBits_le_iff.mp h))
theorem Bg.zero : Bg 0 := by unfold Bg Builtin.Int.intBits; decide
open PySem.W in
theorem bg_of_lay {ns : List Int} (h : WData.layableAll [WData.list (ns.map WData.int)] = true) : ∀ i ∈ ns, Bg i := fun i hi => by
  have h1 := layableW_arg h _ (List.mem_singleton.mpr rfl)
  have h2 := layableW_item h1 (.int i) (List.mem_map.mpr ⟨i, hi, rfl⟩)
  have h3 := (layableW_iff.mp h2).2.2
  exact h3
open PySem.W in
theorem attachB {l : OpenLaw} {n : Nat} {q : Program} {loose : List Str} {XP : (Str → Option Value) → Heap → Prop} {YP : World → Heap → Prop} {d : DefRec}
    (hn : l.most = some n) (hdf : d.params.defaults = [])
    (run : ∀ (w : World) (s0 s1 : Shared) (mg mb : Str → Option Value) (fa : Addr) (o : Obj) (pm cd doc : Value) (a : Addr) (vs : List Value) (ns : List Int),
      Ground q loose [] XP w s0 mg mb s1.heap → YP w s1.heap →
      s1.heap.get? fa = some o → o.data = .func (Calls.docDef d.name d.params d.body d.scope pm cd doc) → s1.heap.CodeRec cd d.name → mg d.name = some (.ref fa) →
      s1.heap.get? a = some { cls := .type "list", data := .seq vs.toArray } → IntsAre vs ns → ns.length ≤ n → (∀ i ∈ ns, Bg i) → s1.gens = #[] →
      codeAny (model l.prog w) callerA (.call (.ref fa) ⟨[.ref a], []⟩) (fun r s' => r = .ok (.ret (.bool true)) ∧ OldK s1.heap s'.heap ∧ s'.os = s1.os ∧ AllBare s'.gens) s1) :
    WalkO q loose XP YP l.row.toRowW d [] (fun f vs => PySem.call f vs) := by
  intro w s0 s1 mg mb G Y fa o pm cd doc dV kV ho hd hcd hD hmg hg args vals as hpre hlay hrd hwl hlo
  obtain rfl : dV = .none := Dflts.none hD hdf
  obtain rfl : kV = .none := Dflts.noKw hD
  obtain ⟨a, vs, ns, rfl, rfl, hobj, hints, hlen⟩ := Att.script_of hn hpre hwl
  have hbg := bg_of_lay hlay
  refine enter_call (codeAny_mono (run w s0 s1 mg mb fa o pm cd doc a vs ns G Y ho (fd_plain hd) hcd hmg hobj hints hlen hbg hg) fun r s' hq => ?_)
  obtain ⟨e1, h2, h3, h4⟩ := hq
  subst e1
  exact ⟨.inl ⟨.bool true, .bool true, [], rfl, fun _ => rfl, .bool true, Att.post_true l _, fun _ => ⟨List.Pairwise.nil, fun _ hm => (nomatch hm)⟩⟩, h2, h3, h4⟩
theorem walk_ofB {l : PySem.W.OpenLaw} {n k : Nat} {q : Program} {loose : List Str} {XP : (Str → Option Value) → Heap → Prop} {YP : World → Heap → Prop} {d : DefRec} {K : Params → PySem.W.Frag} {CX : World → CXT} {sp : World → Sp} {x : Str}
    (hn : l.most = some n) (hn2 : n ≤ sizeLine) (hdf : d.params.defaults = []) (hr : Room k callerA)
    (hY : ∀ (w : World) (h : Heap), YP w h → (K w.params).In h)
    (F : ∀ (w : World) (mg : Str → Option Value) (fa : Addr) (h : Heap), (K w.params).In h → h.Ns mainGlobals mg → mg d.name = some (.ref fa) →
      ∃ fd : FuncData, (∀ (s : Shared) (u : Value), BindsTo s fd ⟨[u], []⟩ [(x, u)]) ∧
        ∀ base : Heap, (K w.params).In base → base.Ns mainGlobals mg → FnOk l.prog w (K w.params) mg base (CX w) k fa fd [x] (sp w))
    (hsp : ∀ (w : World) (H : Hp) (a : Addr) (ns : List Int), ns.length ≤ n → (∀ i ∈ ns, Bg i) → Only H → SqL (K w.params) H a (ns.map V.int) → sp w [.ref a] H (fun v _ => v = .bl true) fun _ _ _ => False)
    (hCX : ∀ (w : World) (H : Hp) (s : Shared) (e : Value) (s' : Shared), CX w [] H s (fun _ _ _ => False) e s' → False) :
    PySem.W.WalkO q loose XP YP l.row.toRowW d [] (fun f vs => PySem.call f vs) := by
  refine attachB hn hdf fun w s0 s1 mg mb fa o pm cd doc a vs ns G Y ho hd hcd hmg hobj hints hlen hbg hg => ?_
  have KX := hY w _ Y
  obtain ⟨fd, hb, hF⟩ := F w mg fa _ KX G.T.g hmg
  exact law_call KX G.T.g G.T.b G.T.builtins G.T.nolimit hg hobj hints (Nat.le_trans hlen hn2) hr hF hb (fun H hO hS => hsp w H a ns hlen hbg hO hS) fun H e s' => hCX w H s1 e s'
theorem Inv.big {X : Cx} {pins : List (Addr × Obj)} {σ : St} {H : Hp} {s : Shared} (I : Inv X pins σ H s) : sysModules < s.heap.objs.size := by
  have h : mainGlobals < s.heap.objs.size := (I.mod.glob.keeps I.bk).lt
  exact Nat.lt_trans (by decide) h
theorem Dens.at {H : Hp} {ts : List Th} {xs : List V} {i : Int} (d : Th) (h : Dens H ts xs) (h0 : 0 ≤ i) (h1 : i < (ts.length : Int)) : ∃ v, atI xs i = some v ∧ Den H (ts.getD i.toNat d) v := by
  have hk : i.toNat < ts.length := by omega
  have ek : i = ((i.toNat : Nat) : Int) := by omega
  obtain ⟨v, e, q⟩ := h.get (List.getElem?_eq_getElem hk)
  have z := atI_nat e
  rw [← ek] at z
  refine ⟨v, z, ?_⟩
  rw [getD_in hk]; exact q
end L2
set_option maxHeartbeats 4000000
namespace L2
open PySem PySem.Spec PyProof.Rows
section
variable {prog : Program} {w : World} {A : Around} {E : Value → Shared → Prop}
end
end L2
set_option maxHeartbeats 4000000
namespace L2
open PySem PySem.Spec PySem.W PyProof.Rows Builtin Builtin.ObjectAttr Builtin.Getset_descriptor
structure XInst (K : Frag) (C : Addr) : Prop where
  ga : findIn K (.ref C) "__getattribute__" = some (some (.builtin "BaseException.__getattribute__"))
  gt : findIn K (.ref C) "__getattr__" = some none
  cl : findIn K (.ref C) "__class__" = some (some (.builtin "object.__class__"))
  sg : specialIn K (.builtin "object.__class__") "__get__" = some (some (.builtin "getset_descriptor.__get__"))
  tk : takesIn K (.builtin "object.__class__") = some true
  ob : mroIn K C (.type "object") = some true
  be : mroIn K C (.type "BaseException") = some true
  ok : isClsIn K C = true
section
variable {prog : Program} {w : World} {A : Around} {E : Value → Shared → Prop} {K : Frag} {a C : Addr} {oe : Obj} {h : Heap} {g : Array GenState} {d : Drawn} {t : Nat} {os : OsState}
end
section
variable {X : Cx} {e : Addr} {oe : Obj}
end
end L2
set_option maxHeartbeats 4000000
namespace L2
open PySem PySem.Spec PyProof.Rows
section
variable {X : Cx} {pins : List (Addr × Obj)} {σ : St} {H : Hp} {s : Shared} {h' : Heap}
end
end L2
set_option maxHeartbeats 4000000
namespace L2
open PySem PySem.Spec PyProof.Rows
noncomputable abbrev testsOf (ifs : List Expr) (env : Env) : Sem Bool := forIn ifs true fun c ok => if ok = true then do
      let ok ← PySem.isTrue c env (eval c env)
      pure (ForInStep.yield ok)
    else pure (ForInStep.yield ok)
theorem compTurn_ifs (elt target iter : Expr) (ifs : List Expr) (scope : Scope) (pos : Pos) (it acc : Value) (env : Env) :
  compTurn (elt.ListComp [⟨target, iter, ifs, 0⟩] scope pos) 0 it acc env = (do
    standAt iter.pos
    let r ← pyNext it
    match r with
      | none => pure (Fin.done Flow.next)
      | some v => do
        letOwnedTupleGo target it v
        assign target env v
        let ok ← testsOf ifs env
        if ok = true then do
          let x ← eval elt env
          let _ ← call (Value.builtin "list.append") [acc, x]
          again (Code.compLoop (elt.ListComp [⟨target, iter, ifs, 0⟩] scope pos) 0 it acc env)
        else again (Code.compLoop (elt.ListComp [⟨target, iter, ifs, 0⟩] scope pos) 0 it acc env)) := by
  unfold compTurn
  simp
  rfl
noncomputable def PIf (X : Cx) (ifs : List Expr) (t : TT) : Prop :=
  ∀ (pins : List (Addr × Obj)) (s : Shared) (σ : St) (H : Hp) (Q : Bool → Hp → Prop), Inv X pins σ H s → t σ H Q → wpAny (model X.prog X.w) X.A (testsOf ifs X.env) (TP X pins σ Q) X.xe s
noncomputable def tYes : TT := fun _ H Q => Q true H
theorem pif_nil {X : Cx} : PIf X [] tYes := fun pins s σ H Q I h => by
  show wpAny _ _ (pure true) _ _ s
  exact wpAny_pure ⟨H, I, h⟩
theorem pif_one {X : Cx} {c : Expr} {t : TT} (hc : PT X c t) : PIf X [c] t := fun pins s σ H Q I h => by
  have e : testsOf [c] X.env = PySem.isTrue c X.env (eval c X.env) := by simp [testsOf]
  rw [e]
  exact hc pins s σ H Q I h
theorem compLoop_ifs {prog : Program} {w : World} {A : Around} {R : Result → Shared → Prop} {s : Shared} {elt tg iter : Expr} {ifs : List Expr} {scope : Scope} {pos : Pos} {it acc : Value} {env : Env} (Iv : Nat → Shared → Prop)
    (turn : ∀ k s, Iv k s → wpAny (model prog w) A (pyNext it) (fun r s1 => match r with
      | none => R (.ok .next) s1
      | some v => wpAny (model prog w) A (letOwnedTupleGo tg it v) (fun _ s2 => wpAny (model prog w) A (assign tg env v) (fun _ s3 => wpAny (model prog w) A (testsOf ifs env) (fun b s4 => if b = true then
          wpAny (model prog w) A (eval elt env) (fun y s5 => wpAny (model prog w) A (call (.builtin "list.append") [acc, y]) (fun _ s6 => ∃ m, m < k ∧ Iv m s6) (fun _ _ => False) s5) (fun _ _ => False) s4
          else ∃ m, m < k ∧ Iv m s4) (fun _ _ => False) s3) (fun _ _ => False) s2) (fun _ _ => False) s1) (fun _ _ => False) s)
    (k : Nat) (h : Iv k s) : codeAny (model prog w) A (.compLoop (.ListComp elt [⟨tg, iter, ifs, 0⟩] scope pos) 0 it acc env) R s := by
  refine codeAny_loop rfl Iv (fun k s hI => ?_) k h
  show wpAny _ _ ((compTurn (.ListComp elt [⟨tg, iter, ifs, 0⟩] scope pos) 0 it acc env).onRaise (fun e => do noteFrame e env; theTreesLotGoes e)) _ _ s
  refine wpAny_noted ?_
  rw [compTurn_ifs]
  refine wpAny_bind (wpAny_standAt (wpAny_bind (wpAny_mono (turn k s hI) (fun r s1 h1 => ?_) fun _ _ f => f.elim)))
  cases r with
  | none => exact wpAny_pure h1
  | some v =>
    refine wpAny_bind (wpAny_mono h1 (fun _ s2 h2 => wpAny_bind (wpAny_mono h2 (fun _ s3 h3 => wpAny_bind (wpAny_mono h3 (fun b s4 h4 => ?_) fun _ _ f => f.elim)) fun _ _ f => f.elim)) fun _ _ f => f.elim)
    cases b with
    | true =>
      rw [if_pos rfl] at h4 ⊢
      exact wpAny_bind (wpAny_mono h4 (fun y s5 h5 => wpAny_bind (wpAny_mono h5 (fun _ s6 h6 => wpAny_pure ⟨rfl, h6⟩) fun _ _ f => f.elim)) fun _ _ f => f.elim)
    | false =>
      rw [if_neg Bool.false_ne_true] at h4 ⊢
      exact wpAny_pure ⟨rfl, h4⟩
structure CompOkL (X : Cx) (xs : List Str) (ts : List (Str × Nat)) (scope : Scope) (cl : List (Str × Addr)) : Prop where
  clos : closureFor scope X.env = pure cl
  sub : ∀ y c, cl.lookup y = some c → X.env.cells.lookup y = some c
  nocell : (scope.names.all fun p => p.2 != .cell) = true
  kind : scope.kind = .function
  locs : (scope.names.all fun p => p.2 != .local || scope.names.lookup p.1 == some .local) = true
  nd : (xs ++ ts.map (·.1)).Nodup
  around : (ts.all fun p => decide (X.N[p.2]? = some p.1) && (X.env.kindOf p.1 == some .cell || X.env.kindOf p.1 == some .free) && (cl.lookup p.1).isSome &&
    ((relabel scope X.env).names.lookup p.1 == some .cell || (relabel scope X.env).names.lookup p.1 == some .free)) = true
  has : ((relabel scope X.env).names.all fun p => !(p.2 == .cell || p.2 == .free) || (cl.lookup p.1).isSome) = true
noncomputable abbrev nmsL (xs : List Str) (ts : List (Str × Nat)) : List Str := xs ++ ts.map (·.1)
noncomputable def CompG (J : It) (g : TG) (tt : TT) (te : TE) (k : Nat) (st : St) (D : Addr) (H1 : Hp) (Q : VK) : Prop :=
  ∃ W : Nat → Nat → List V → Hp → Prop, (∃ m, W 0 m [] (upd H1 D (.lst []))) ∧ ∀ i m ys H2, W i m ys H2 →
    (J.stop i H2 ∧ Q (.ref D) H2) ∨ (J.go i H2 ∧ ∀ x H3 σ0, J.yld i H2 x H3 → σ0.length = k → g x (σ0 ++ st) H3 fun σ2 H4 => (∃ σ1, σ1.length = k ∧ σ2 = σ1 ++ st) ∧ tt σ2 H4 fun b H5 =>
      if b = true then te σ2 H5 fun y H6 => H6 D = some (.lst ys) ∧ ys.length < sizeLine ∧ ∃ m', m' < m ∧ W (i + 1) m' (ys ++ [y]) (upd H6 D (.lst (ys ++ [y])))
      else ∃ m', m' < m ∧ W (i + 1) m' ys H5)
noncomputable def tCompG (wi : TI) (g : TG) (tt : TT) (k : Nat) (fr : List Nat) (te : TE) : TE := fun σ H Q => wi σ H fun J H1 => ∀ D, H1 D = none → CompG J g tt te k (taken σ fr) D H1 Q
section
variable {X : Cx} {elt iter tg : Expr} {ifs : List Expr} {xs : List Str} {pos : Pos} {scope : Scope} {cl : List (Str × Addr)} {ts : List (Str × Nat)} {wi : TI} {te : TE} {g : TG} {tt : TT}
theorem CompOkL.nocell' (O : CompOkL X xs ts scope cl) : ∀ y ∈ scope.names, y.2 ≠ .cell := fun y hy e => by
  have := List.all_eq_true.mp O.nocell y hy
  rw [e] at this
  cases this
theorem CompOkL.locs' (O : CompOkL X xs ts scope cl) : ∀ y ∈ scope.names, y.2 = .local → scope.names.lookup y.1 = some .local := fun y hy e => by
  have h := List.all_eq_true.mp O.locs y hy
  rw [e] at h
  rcases Bool.or_eq_true_iff.mp h with z | z
  · cases z
  · exact beq_iff_eq.mp z
theorem CompOkL.from' (O : CompOkL X xs ts scope cl) : ∀ (i : Nat) (y : Str), (ts.map (·.1))[i]? = some y → ∃ j, (sltOf ts)[i]? = some j ∧ X.N[j]? = some y ∧ (X.env.kindOf y = some .cell ∨ X.env.kindOf y = some .free) ∧ (cl.lookup y).isSome = true ∧
    ((relabel scope X.env).names.lookup y = some .cell ∨ (relabel scope X.env).names.lookup y = some .free) := fun i y e1 => by
  rw [List.getElem?_map] at e1
  cases q : ts[i]? with
  | none => rw [q] at e1; cases e1
  | some p =>
    rw [q] at e1
    have e2 : p.1 = y := Option.some.inj e1
    subst e2
    have h := List.all_eq_true.mp O.around p (List.mem_of_getElem? q)
    simp only [Bool.and_eq_true, Bool.or_eq_true, beq_iff_eq, decide_eq_true_eq] at h
    obtain ⟨⟨⟨h1, h2⟩, h3⟩, h4⟩ := h
    refine ⟨p.2, ?_, h1, h2, h3, h4⟩
    show (ts.map (·.2))[i]? = some p.2
    rw [List.getElem?_map, q] <;> rfl
theorem CompOkL.has' (O : CompOkL X xs ts scope cl) : ∀ y, ((relabel scope X.env).names.lookup y = some .cell ∨ (relabel scope X.env).names.lookup y = some .free) → (cl.lookup y).isSome = true := fun y h => by
  have go : ∀ k : NameKind, (k = .cell ∨ k = .free) → (relabel scope X.env).names.lookup y = some k → (cl.lookup y).isSome = true := fun k hk e => by
    have z := List.all_eq_true.mp O.has (y, k) (PySem.mem_of_lookup e)
    rcases Bool.or_eq_true_iff.mp z with z | z
    · rcases hk with e | e <;> (rw [e] at z; cases z)
    · exact z
  rcases h with h | h
  · exact go _ (.inl rfl) h
  · exact go _ (.inr rfl) h
theorem compL_ok {pins : List (Addr × Obj)} {σ : St} {H3 : Hp} {s3 : Shared} {fp : List Addr} (O : CompOkL X xs ts scope cl) (I3 : Inv X pins σ H3 s3) (hfp : ∀ b ∈ fp, FpOk X pins H3 b ∧ b < s3.heap.objs.size) :
    (cxComp X (nmsL xs ts) scope cl s3.heap.objs.size s3 H3 fp).Ok where
  mod := I3.ok.mod
  kind := O.kind
  glob := I3.ok.glob
  blt := I3.ok.blt
  above := Nat.le_refl _
  inj := fun y z c h1 h2 => I3.ok.inj y z c (O.sub y c h1) (O.sub z c h2)
  has := fun y h => Option.isSome_iff_exists.mp (O.has' y h)
  cab := fun y c h => by cases h
  hd := I3.ok.hd
  frames := I3.ok.frames
  stk := .inl rfl
  exf := fun b hb => ⟨Nat.ne_of_lt (hfp b hb).2, fun y c e => (hfp b hb).1.2.2.2.2.1 y c (O.sub y c e)⟩
  bs := fun b o e => I3.bs b o e
  bsz := Nat.le_trans I3.ok.bsz I3.sz
  noex := fun b o e hb => by
    rcases (hfp b hb).1.2.2.2.1 with z | z
    · exact I3.ok.noex b o e z
    · exact absurd (Nat.lt_of_lt_of_le (Heap.lt_size (I3.ok.bs b o e).1) z) (Nat.lt_irrefl _)
  exfs := fun b hb hz => by
    rcases List.mem_cons.mp (I3.stkSub b hz) with e | e
    · exact (hfp b hb).1.2.1 e
    · exact (hfp b hb).1.2.2.1 e
  funs := I3.stack
  frf := I3.stkFree
theorem compL_start {pins : List (Addr × Obj)} {σ : St} {H3 : Hp} {s3 : Shared} {fp : List Addr} {h1 : Heap} {tk : Nat} (O : CompOkL X xs ts scope cl) (I3 : Inv X pins σ H3 s3) (hfp : ∀ b ∈ fp, FpOk X pins H3 b ∧ b < s3.heap.objs.size)
    (hns : h1.Ns s3.heap.objs.size fun _ => none) (old : ∀ b o, s3.heap.get? b = some o → h1.get? b = some o) :
    Inv (cxComp X (nmsL xs ts) scope cl s3.heap.objs.size s3 H3 fp) [] (List.replicate xs.length none ++ taken σ (sltOf ts)) H3 { s3 with heap := h1, toks := tk } := by
  refine ⟨compL_ok O I3 hfp, rfl, I3.bare, Un.kept old, ⟨_, hns, fun i y v e1 e2 e3 => ?_⟩, fun y c e => ?_, I3.hok.fresh (Nat.le_refl _), fun y c e => I3.freeC y c (O.sub y c e), fun p hp => absurd (show p ∈ ([] : List (Addr × Obj)) from hp) (by simp), I3.hok.kept old, ?_⟩
  · by_cases hi : i < xs.length
    · rw [List.getElem?_append_left (by simpa using hi), List.getElem?_replicate, if_pos hi] at e2
      cases e2
    · have hi' : xs.length ≤ i := Nat.le_of_not_lt hi
      have e1' : (ts.map (·.1))[i - xs.length]? = some y := by
        have : (xs ++ ts.map (·.1))[i]? = some y := e1
        rw [List.getElem?_append_right hi'] at this; exact this
      rw [List.getElem?_append_right (by simpa using hi')] at e2
      rw [List.length_replicate] at e2
      obtain ⟨j, hj, hN, hk, hcl, hk2⟩ := O.from' _ y e1'
      have e2' : σ[j]? = some (some v) := by
        have q := e2
        unfold taken at q
        rw [List.getElem?_map, hj] at q
        have q' : (σ[j]?).getD none = some v := Option.some.inj q
        cases z : σ[j]? with
        | none => rw [z] at q'; cases q'
        | some w => rw [z] at q'; rw [show w = some v from q']
      obtain ⟨m, hn, hl⟩ := I3.loc
      have vis : Vis X.env.scope y := hk.elim (fun z => .inr (.inl z)) fun z => .inr (.inr z)
      obtain ⟨u, r, l⟩ := hl j y v hN e2' vis
      obtain ⟨c, hc⟩ := Option.isSome_iff_exists.mp hcl
      refine ⟨u, r, .inr ⟨hk2, c, hc, ?_⟩⟩
      rcases l with ⟨k, _⟩ | ⟨_, c', hc', z⟩
      · rcases hk with hk | hk
        · rw [k] at hk; cases hk
        · rw [k] at hk; cases hk
      · rw [O.sub y c hc] at hc'
        cases hc'
        obtain ⟨o, ho, hd⟩ := z
        exact ⟨o, old c o ho, hd⟩
  · obtain ⟨v, o, ho, hd⟩ := I3.cell y c (O.sub y c e)
    exact ⟨v, o, old c o ho, hd⟩
  · show (List.replicate xs.length none ++ taken σ (sltOf ts)).length = (nmsL xs ts).length
    simp [taken]
theorem compG_run {use : Option (Value → Sem Unit)} {QV : Value → Shared → Prop} {cpos : Pos} {pins : List (Addr × Obj)} {s : Shared} {σ : St} {H : Hp} {Q : VK} (hc : X.calm = true) (O : CompOkL X xs ts scope cl) (hi : PI X tg iter wi) (hg : ∀ C s3 H3 fp, PG (cxComp X (nmsL xs ts) scope cl C s3 H3 fp) tg g)
    (ht : ∀ C s3 H3 fp, PIf (cxComp X (nmsL xs ts) scope cl C s3 H3 fp) ifs tt) (he : ∀ C s3 H3 fp, PE (cxComp X (nmsL xs ts) scope cl C s3 H3 fp) elt te)
    (hs : ∀ x, foldedSetIterable iter X.env x = pure x) (I : Inv X pins σ H s) (h : tCompG wi g tt xs.length (sltOf ts) te σ H Q)
    (fin : ∀ (D C : Addr) (s6 : Shared) (H5 : Hp), Inv X pins σ H5 s6 → FpOk X pins H5 C → (∃ m, s6.heap.Ns C m) → Q (.ref D) H5 → compPost (model X.prog X.w) X.A X.xe use QV (.ref D) C (.ok .next) s6) :
    wpAny (model X.prog X.w) X.A (comprehension (.ListComp elt [⟨tg, iter, ifs, 0⟩] scope pos) scope X.env cpos (newList []) false (eval iter X.env) use) QV X.xe s := by
  refine wpAny_comprehension_free (use := use) rfl hs O.clos O.kind O.locs' (thn (hi pins s σ H _ I h) fun v s1 h1 => thn h1 fun itv s2 h2 => ?_)
  obtain ⟨it, fp, tn, J, H2, rfl, I2, T, st2, f2, q⟩ := h2
  have hD : H2 s2.heap.objs.size = none := I2.hok.fresh (Nat.le_refl _)
  obtain ⟨W, ⟨m0, w0⟩, turn⟩ := q s2.heap.objs.size hD
  refine wpAny_newObj_type ?_
  have I3 : Inv X pins σ (upd H2 s2.heap.objs.size (.lst [])) { s2 with heap := s2.heap.push { cls := .type "list", dict := none, data := .seq ([] : List Value).toArray } } :=
    I2.laid (a := s2.heap.objs.size) (o := .lst []) (t' := s2.toks) (fun b u e => Heap.get?_push_of_some _ e) (Nat.le_refl _) ⟨Nat.zero_le _, [], 0, .nil, Heap.get?_push_size _ rfl⟩
  generalize hs3 : ({ s2 with heap := s2.heap.push { cls := .type "list", dict := none, data := .seq ([] : List Value).toArray } } : Shared) = s3 at I3
  have sz3 : s3.heap.objs.size = s2.heap.objs.size + 1 := by rw [← hs3, Heap.size_push]
  have old3 : ∀ b u, s2.heap.get? b = some u → s3.heap.get? b = some u := fun b u e => by rw [← hs3]; exact Heap.get?_push_of_some _ e
  generalize hH3 : upd H2 s2.heap.objs.size (.lst []) = H3 at I3 w0
  have fp2 : ∀ b ∈ fp, b < s2.heap.objs.size := fun b hb => by
    obtain ⟨o, e, _⟩ := T.obj _ _ st2 b hb
    exact Heap.lt_size e
  have hfp : ∀ b ∈ fp, FpOk X pins H3 b ∧ b < s3.heap.objs.size := fun b hb => by
    refine ⟨⟨?_, (f2 b hb).2⟩, by rw [sz3]; exact Nat.lt_succ_of_lt (fp2 b hb)⟩
    rw [← hH3, upd_ne (Nat.ne_of_lt (fp2 b hb))]
    exact (f2 b hb).1
  refine wpAny_newFunctionEnv O.nocell' (by intro y hy; simp at hy) (fun h₁ hns₁ hsb₁ => ?_) O.kind
  have old : ∀ b o, s3.heap.get? b = some o → h₁.get? b = some o := fun b o e => hsb₁.extBut b o (Nat.ne_of_lt (Heap.lt_size e)) (Heap.get?_push_of_some _ e)
  have start : Inv (cxComp X (nmsL xs ts) scope cl s3.heap.objs.size s3 H3 fp) [] (List.replicate xs.length none ++ taken σ (sltOf ts)) H3 { s3 with heap := h₁, toks := s3.toks + 0 } := compL_start O I3 hfp hns₁ old
  have st4 : tn 0 h₁ := T.keep _ _ _ st2 fun b hb o e => old b o (old3 b o e)
  have okX : ∀ {H' : Hp}, (∀ b ∈ fp, H' b = none) → ∀ b ∈ fp, FpOk (cxComp X (nmsL xs ts) scope cl s3.heap.objs.size s3 H3 fp) [] H' b := fun hn b hb => by
    refine ⟨hn b hb, Nat.ne_of_lt (hfp b hb).2, fun z => ?_, .inl hb, fun y c e => (f2 b hb).2.2.2.2.1 y c (O.sub y c e), fun p hp => absurd (show p ∈ ([] : List (Addr × Obj)) from hp) (by simp)⟩
    rcases List.mem_cons.mp (I3.stkSub b z) with e | e
    · exact (f2 b hb).2.1 e
    · exact (f2 b hb).2.2.1 e
  have loop : ∀ s₄ : Shared, s₄ = { s3 with heap := h₁, toks := s3.toks + 0 } →
      codeAny (model X.prog X.w) X.A (.compLoop (.ListComp elt [⟨tg, iter, ifs, 0⟩] scope pos) 0 (.ref it) (.ref s2.heap.objs.size) (compEnvC scope cl s3.heap.objs.size X.env))
        (compPost (model X.prog X.w) X.A X.xe use QV (.ref s2.heap.objs.size) s3.heap.objs.size) s₄ := by
    rintro s₄ rfl
    refine compLoop_ifs (fun n s' => ∃ i ys σ0 H', σ0.length = xs.length ∧ Inv (cxComp X (nmsL xs ts) scope cl s3.heap.objs.size s3 H3 fp) [] (σ0 ++ taken σ (sltOf ts)) H' s' ∧ tn i s'.heap ∧ (∀ b ∈ fp, H' b = none) ∧ W i n ys H') ?_ m0
      ⟨0, [], _, H3, by simp, start, st4, fun b hb => (hfp b hb).1.1, w0⟩
    rintro n s5 ⟨i, ys, σ0, H5, l0, I5, st5, fr5, w5⟩
    rcases turn i n ys H5 w5 with ⟨stop, qn⟩ | ⟨go, step⟩
    · refine thn (T.done (cxComp X (nmsL xs ts) scope cl s3.heap.objs.size s3 H3 fp) rfl rfl rfl hc i [] s5 (σ0 ++ taken σ (sltOf ts)) H5 _ I5 (okX fr5) st5 stop) fun r s6 ⟨hr, I6⟩ => ?_
      subst hr
      obtain ⟨m, hn, _⟩ := id I6.loc
      have u6 : Un (frs X.stack) fp H3 H5 s3.heap s6.heap := I6.base
      have fC : H5 s3.heap.objs.size = none := I6.free
      exact fin s2.heap.objs.size s3.heap.objs.size s6 H5 (I3.call' (s' := s6) (ch := fp) I6.os u6 I6.hok I6.bare (fun b hb => ⟨(f2 b hb).2.2.2.1, (f2 b hb).2.1, (f2 b hb).2.2.2.2.1, (f2 b hb).2.2.2.2.2⟩))
        (I3.fpOk (Nat.le_refl _) fC) ⟨m, hn⟩ qn
    · refine thn (T.item (cxComp X (nmsL xs ts) scope cl s3.heap.objs.size s3 H3 fp) rfl rfl rfl hc i [] s5 (σ0 ++ taken σ (sltOf ts)) H5 _ I5 (okX fr5) st5 go) fun r s6 ⟨u, hr, h6⟩ => ?_
      subst hr
      refine thn h6 fun _ s7 ⟨z, H7, I7, rz, yz, st7, fr7⟩ => ?_
      have I7' := I7.pinned (okX fr7) (T.obj _ _ st7)
      refine thn (hg s3.heap.objs.size s3 H3 fp _ s7 _ H7 z u _ I7' rz (step z H7 σ0 yz l0)) fun _ s8 ⟨σ8, H8, I8, ⟨σ1, l1, e8⟩, q8⟩ => ?_
      subst e8
      refine thn (ht s3.heap.objs.size s3 H3 fp _ s8 _ H8 _ I8 q8) fun b s9 ⟨H9, I9, q9⟩ => ?_
      cases b with
      | true =>
        rw [if_pos rfl] at q9 ⊢
        refine thn (he s3.heap.objs.size s3 H3 fp _ s9 _ H9 _ I9 q9) fun y s10 ⟨vy, H10, I10, ry, hD9, hl9, m', hm', w9⟩ => ?_
        refine thn (mt_append (X := cxComp X (nmsL xs ts) scope cl s3.heap.objs.size s3 H3 fp) _ s10 _ H10 (.ref s2.heap.objs.size) [vy] (.ref s2.heap.objs.size) [y] (fun _ H11 => H11 = upd H10 s2.heap.objs.size (.lst (ys ++ [vy]))) I10 rfl (.cons ry .nil) ⟨_, ys, vy, rfl, rfl, hD9, hl9, rfl⟩) fun _ s11 ⟨_, H11, I11, _, e11⟩ => ?_
        subst e11
        refine ⟨m', hm', i + 1, ys ++ [vy], σ1, _, l1, I11.unpinned, T.keep _ _ _ st7 fun b hb o e => (I11.pin (b, o) (List.mem_append_right _ (List.mem_append_right _ (mem_pinsAt hb e)))).1, fun b hb => ?_, w9⟩
        obtain ⟨o, e, d⟩ := T.obj _ _ st7 b hb
        exact (I11.pin (b, o) (List.mem_append_right _ (List.mem_append_right _ (mem_pinsAt hb e)))).2.1
      | false =>
        rw [if_neg Bool.false_ne_true] at q9 ⊢
        obtain ⟨m', hm', w9⟩ := q9
        refine ⟨m', hm', i + 1, ys, σ1, _, l1, I9.unpinned, T.keep _ _ _ st7 fun b hb o e => (I9.pin (b, o) (List.mem_append_right _ (List.mem_append_right _ (mem_pinsAt hb e)))).1, fun b hb => ?_, w9⟩
        obtain ⟨o, e, d⟩ := T.obj _ _ st7 b hb
        exact (I9.pin (b, o) (List.mem_append_right _ (List.mem_append_right _ (mem_pinsAt hb e)))).2.1
  have hst := codeAny_compStart_list (loop _ rfl) (T.self X.A 0 _ _ _ st4 (loop _ rfl))
  exact hst
theorem pe_compG (hc : X.calm = true) (O : CompOkL X xs ts scope cl) (hi : PI X tg iter wi) (hg : ∀ C s3 H3 fp, PG (cxComp X (nmsL xs ts) scope cl C s3 H3 fp) tg g)
    (ht : ∀ C s3 H3 fp, PIf (cxComp X (nmsL xs ts) scope cl C s3 H3 fp) ifs tt) (he : ∀ C s3 H3 fp, PE (cxComp X (nmsL xs ts) scope cl C s3 H3 fp) elt te)
    (hs : ∀ x, foldedSetIterable iter X.env x = pure x := by intro _; rfl) : PE X (.ListComp elt [⟨tg, iter, ifs, 0⟩] scope pos) (tCompG wi g tt xs.length (sltOf ts) te) := by
  intro pins s σ H Q I h
  rw [eval_ListComp]
  refine compG_run (use := none) hc O hi hg ht he hs I h fun D C s6 H5 I6 fC ⟨m, hn⟩ q => ?_
  refine ⟨m, hn, fun h' sb => ⟨.ref D, H5, ?_, rfl, q⟩⟩
  exact I6.turned (it := C) (t' := s6.toks) (fun b o hb e => (sb.2 b hb).trans e) fC.1 fC.2.1 fC.2.2.2.1 fC.2.2.2.2.1 fC.2.2.2.2.2
theorem ps_setC {i : Nat} {x : Str} {pos' sp : Pos} (hN : X.N.Nodup) (hix : X.N[i]? = some x) (hx : Loc X.env.scope x) (hc : X.calm = true) (O : CompOkL X xs ts scope cl) (hi : PI X tg iter wi) (hg : ∀ C s3 H3 fp, PG (cxComp X (nmsL xs ts) scope cl C s3 H3 fp) tg g)
    (ht : ∀ C s3 H3 fp, PIf (cxComp X (nmsL xs ts) scope cl C s3 H3 fp) ifs tt) (he : ∀ C s3 H3 fp, PE (cxComp X (nmsL xs ts) scope cl C s3 H3 fp) elt te)
    (hs : ∀ x, foldedSetIterable iter X.env x = pure x := by intro _; rfl) (hw : swapsWith (.ListComp elt [⟨tg, iter, ifs, 0⟩] scope pos) (some (.Name x pos')) sp.line X.env = pure true := by rfl)
    (hf : X.fn x = true ∨ X.env.scope.names.lookup x = some .local := by first | exact .inl rfl | exact .inr rfl | assumption) :
    PS X (.Assign [.Name x pos'] (.ListComp elt [⟨tg, iter, ifs, 0⟩] scope pos) sp) (tAsg (tCompG wi g tt xs.length (sltOf ts) te) (gName i)) := by
  intro pins s σ H D I h
  rw [exec_Assign_Name_used x pos' _ sp hw]
  refine wpAny_bind (wpAny_standAt (wpAny_bind ?_))
  show wpAny _ _ ((comprehension _ scope X.env _ (newList []) _ _ (some _)) >>= fun _ => pure ()) _ _ s
  refine wpAny_bind (compG_run (use := some (assign (.Name x pos') X.env)) hc O hi hg ht he hs I h fun A C s6 H5 I6 fC ⟨m, hn⟩ q => ?_)
  obtain ⟨o, es, ep, ho, r⟩ := id hn
  have onlyC : ∀ b : Addr, b ∈ [C] → b = C := fun b hb => by simpa using hb
  have I6' := I6.pinned (fp := [C]) (fun b hb => onlyC b hb ▸ fC) (fun b hb => by
    rw [onlyC b hb]
    exact ⟨o, ho, fun v z => by rw [r.1] at z; cases z⟩)
  refine wpAny_assign_Name (store_ok I6' hN hix hx (v := .ref A) rfl (fun s7 I7 => ?_) hf)
  have e7 : s7.heap.get? C = some o := (I7.pin (C, o) (List.mem_append_right _ (List.mem_append_right _ (mem_pinsAt (by simp) ho)))).1
  refine ⟨m, ⟨o, es, ep, e7, r⟩, fun h' sb => wpAny_pure (wpAny_pure ⟨_, H5, ?_, q⟩)⟩
  exact I7.unpinned.turned (it := C) (t' := s7.toks) (fun b o hb e => (sb.2 b hb).trans e) fC.1 fC.2.1 fC.2.2.2.1 fC.2.2.2.2.1 fC.2.2.2.2.2
end
end L2
set_option maxHeartbeats 4000000
namespace L2
open PySem PySem.Spec PyProof.Rows
section
variable {X : Cx}
end
end L2
set_option maxHeartbeats 4000000
namespace L2
open PySem PySem.Spec PyProof.Rows
section
variable {X : Cx}
noncomputable def Smk (i : Int) : Prop := i.natAbs < 2 ^ 8900
theorem Smk.bits {i : Int} (h : Smk i) : Builtin.Int.intBits i ≤ 8900 := intBits_le_iff.mpr h
theorem mulOk_smk {i j : Int} (hi : Smk i) (hj : Smk j) : IntMulOk i j := by
  have h1 := hi.bits
  have h2 := hj.bits
  unfold IntMulOk Builtin.Int.intTooBig
  intro h
  have h4 := of_decide_eq_true (Bool.and_eq_true_iff.mp h).2
  rw [bitsLine_eq] at h4
  omega
theorem noPy_smk {i j : Int} (hj : Smk j) : Builtin.divisionGoesByPylong i j = false := by
  refine PyProof.noPylong_of_log2 ?_
  by_cases h0 : j.natAbs = 0
  · rw [h0]; decide +kernel
  · have h : j.natAbs.log2 < 8900 := (Nat.log2_lt h0).mpr hj
    omega
theorem op_mulK : OpR X (binaryOp .Mult) (rI (fun i j => Smk i ∧ Smk j) fun i j => .int (i * j)) := opI fun _ _ _ _ _ _ _ hc q => mul_int q (mulOk_smk hc.1 hc.2)
theorem op_fdivK : OpR X (binaryOp .FloorDiv) (rI (fun _ j => j ≠ 0 ∧ Smk j) fun i j => .int (i.fdiv j)) := opI fun _ _ _ _ _ _ _ hc q => floordiv_int hc.1 q (.inl (noPy_smk hc.2))
end
section
variable {X : Cx} {N' : List Str} {scope : Scope} {cl : List (Str × Addr)} {C : Addr} {s3 : Shared} {H3 : Hp} {fp : List Addr}
end
theorem Rd.same {H H' : Hp} {a : Addr} {u : HO} (e : Same H H') (h : Rd H a u) : Rd H' a u := by
  rcases h with h | ⟨o, h⟩
  · exact .inl (e a _ h)
  · exact .inr ⟨o, e a _ h⟩
theorem Same.tup {K : PySem.W.Frag} {H H' : Hp} {a : Addr} {xs : List V} (e : Same H H') (h : SqT K H a xs) : SqT K H' a xs := by
  rcases h with h | h
  · exact .inl (h.same e)
  · exact .inr h
theorem same_upd {H1 H2 : Hp} {D : Addr} {o : HO} (h : Same H1 H2) (hD : H1 D = none) : Same H1 (upd H2 D o) := fun b u e => by
  rw [upd_ne (ne_of_none e hD)]; exact h b u e
theorem comp_rangeG {lo : Int} {n : Nat} {te : TE} {st : St} {H1 : Hp} {Q : VK} {D : Addr} (f : Nat → V) (hD : H1 D = none) (hn : n ≤ sizeLine)
    (hs : ∀ (i : Nat) (H2 : Hp) (k : VK), i < n → Same H1 H2 → (∀ H4, Same H2 H4 → k (f i) H4) → te (some (.int (lo + i)) :: st) H2 k)
    (hd : ∀ H2, Same H1 H2 → H2 D = some (.lst ((List.range n).map f)) → Q (.ref D) H2) : CompG (Itr lo n) (gName 0) tYes te 1 st D H1 Q := by
  refine ⟨fun i m ys H2 => m = n - i ∧ i ≤ n ∧ ys = (List.range i).map f ∧ Same H1 H2 ∧ H2 D = some (.lst ys), ⟨n, by simp, Nat.zero_le _, rfl, same_upd (Same.refl H1) hD, upd_same⟩, ?_⟩
  rintro i m ys H2 ⟨rfl, hi, rfl, sm, e⟩
  by_cases hlt : i < n
  · refine .inr ⟨hlt, ?_⟩
    rintro x H3 σ0 ⟨rfl, rfl⟩ l0
    obtain ⟨a, rfl⟩ : ∃ a, σ0 = [a] := by
      match σ0, l0 with
      | [a], _ => exact ⟨a, rfl⟩
    refine ⟨⟨[some (.int (lo + i))], rfl, rfl⟩, ?_⟩
    have ln : ((List.range i).map f).length = i := by rw [List.length_map, List.length_range]
    refine hs i _ _ hlt sm fun H4 s4 => ⟨s4 _ _ e, by rw [ln]; omega, n - (i + 1), by omega, rfl, hlt, ?_, same_upd (sm.trans s4) hD, upd_same⟩
    rw [List.range_succ, List.map_append] <;> rfl
  · have ei : i = n := by omega
    subst ei
    exact .inl ⟨Nat.le_refl _, hd _ sm e⟩
end L2
set_option maxHeartbeats 4000000
namespace L2
open PySem PySem.Spec PyProof.Rows
mutual
noncomputable def cmpTh : Th → Th → Bool
  | .int _, .int _ => true
  | .str _, .str _ => true
  | .non, .non => true
  | .tup ts, .tup us => cmpThs ts us
  | .lst ts, .lst us => cmpThs ts us && ts.length == us.length
  | _, _ => false
noncomputable def cmpThs : List Th → List Th → Bool
  | t :: ts, u :: us => cmpTh t u && cmpThs ts us
  | _, _ => true
end
theorem cmp_int {i : Int} {u : Th} (c : cmpTh (.int i) u = true) : ∃ j, u = .int j := by cases u <;> first | exact ⟨_, rfl⟩ | cases c
theorem cmp_str {i : Str} {u : Th} (c : cmpTh (.str i) u = true) : ∃ j, u = .str j := by cases u <;> first | exact ⟨_, rfl⟩ | cases c
theorem cmp_non {u : Th} (c : cmpTh .non u = true) : u = .non := by cases u <;> first | rfl | cases c
theorem cmp_tup {i : List Th} {u : Th} (c : cmpTh (.tup i) u = true) : ∃ j, u = .tup j := by cases u <;> first | exact ⟨_, rfl⟩ | cases c
theorem cmp_lst {i : List Th} {u : Th} (c : cmpTh (.lst i) u = true) : ∃ j, u = .lst j := by cases u <;> first | exact ⟨_, rfl⟩ | cases c
theorem cmp_bl {b : Bool} {u : Th} (c : cmpTh (.bl b) u = true) : False := by cases u <;> cases c
theorem cmp_emp {u : Th} (c : cmpTh .emp u = true) : False := by cases u <;> cases c
theorem cmp_dic {u : Th} (c : cmpTh .dic u = true) : False := by cases u <;> cases c
mutual
theorem Den.inj {H : Hp} : ∀ {t u : Th} {v : V}, cmpTh t u = true → Den H t v → Den H u v → t = u
  | .bl _, u, v, c, d1, d2 => (cmp_bl c).elim
  | .emp, u, v, c, d1, d2 => (cmp_emp c).elim
  | .dic, u, v, c, d1, d2 => (cmp_dic c).elim
  | .int i, u, v, c, d1, d2 => by
    obtain ⟨j, rfl⟩ := cmp_int c
    cases (show v = V.int i from d1); cases (show V.int i = V.int j from d2); rfl
  | .str i, u, v, c, d1, d2 => by
    obtain ⟨j, rfl⟩ := cmp_str c
    cases (show v = V.str i from d1); cases (show V.str i = V.str j from d2); rfl
  | .non, u, v, c, d1, d2 => (cmp_non c).symm
  | .tup ts, u, v, c, d1, d2 => by
    obtain ⟨us, rfl⟩ := cmp_tup c
    obtain ⟨a1, xs, rfl, h1, e1⟩ := d1
    obtain ⟨a2, ys, e0, h2, e2⟩ := d2
    cases e0
    rw [h1] at h2
    cases h2
    rw [cmpTh] at c
    rw [Dens.inj c e1 e2]
  | .lst ts, u, v, c, d1, d2 => by
    obtain ⟨us, rfl⟩ := cmp_lst c
    obtain ⟨a1, xs, rfl, h1, e1⟩ := d1
    obtain ⟨a2, ys, e0, h2, e2⟩ := d2
    cases e0
    rw [h1] at h2
    cases h2
    rw [cmpTh, Bool.and_eq_true] at c
    rw [Dens.inj c.1 e1 e2]
theorem Dens.inj {H : Hp} : ∀ {ts us : List Th} {xs : List V}, cmpThs ts us = true → Dens H ts xs → Dens H us xs → ts = us
  | [], [], _, _, _, _ => rfl
  | [], u :: us, xs, _, d1, d2 => by
    have e1 := d1.len
    have e2 := d2.len
    simp at e1 e2
    rw [e1] at e2
    simp at e2
  | t :: ts, [], xs, _, d1, d2 => by
    have e1 := d1.len
    have e2 := d2.len
    simp at e1 e2
    rw [e2] at e1
    simp at e1
  | t :: ts, u :: us, xs, c, d1, d2 => by
    obtain ⟨x, r, rfl, p1, q1⟩ := d1
    obtain ⟨x', r', e, p2, q2⟩ := d2
    cases e
    rw [cmpThs, Bool.and_eq_true] at c
    rw [Den.inj c.1 p1 p2, Dens.inj c.2 q1 q2]
end
section
variable {X : Cx}
end
theorem subL {cs : List (Str × Addr)} : ∀ {l : List (Str × Addr)}, (∀ p ∈ l, cs.lookup p.1 = some p.2) → ∀ (y : Str) (c : Addr), l.lookup y = some c → cs.lookup y = some c
  | [], _, y, c, h => by cases h
  | p :: l, k, y, c, h => by
    rw [List.lookup_cons] at h
    by_cases e : (y == p.1) = true
    · rw [e] at h
      have h' : p.2 = c := Option.some.inj h
      have ey : y = p.1 := beq_iff_eq.mp e
      rw [ey, ← h']
      exact k p (List.mem_cons_self ..)
    · have e' : (y == p.1) = false := Bool.eq_false_iff.mpr e
      rw [e'] at h
      exact subL (fun q hq => k q (List.mem_cons_of_mem _ hq)) y c h
theorem sub2 {cs : List (Str × Addr)} {x1 x2 : Str} {c1 c2 : Addr} (h1 : cs.lookup x1 = some c1) (h2 : cs.lookup x2 = some c2) : ∀ (y : Str) (c : Addr), List.lookup y [(x1, c1), (x2, c2)] = some c → cs.lookup y = some c :=
  subL fun p hp => by
    simp only [List.mem_cons, List.not_mem_nil, or_false] at hp
    rcases hp with rfl | rfl <;> assumption
end L2
set_option maxHeartbeats 4000000
namespace L2
open PySem PySem.Spec PyProof.Rows
theorem comp_listC {α : Type} {K : PySem.W.Frag} {a : Addr} {xs : List V} {te : TE} {tt : TT} {st : St} {H1 : Hp} {Q : VK} {D : Addr} (ps : List α) (p : α → Bool) (R : α → V → Prop) (hD : H1 D = none) (q1 : SqL K H1 a xs) (hl : xs.length = ps.length) (hn : xs.length ≤ sizeLine)
    (hx : ∀ (i : Nat) (h : α), ps[i]? = some h → ∃ u, xs[i]? = some u ∧ R h u)
    (ht : ∀ (h : α) (u : V) (H2 : Hp) (k : Bool → Hp → Prop), R h u → Same H1 H2 → (∀ H4, Same H2 H4 → k (p h) H4) → tt (some u :: st) H2 k)
    (hs : ∀ (h : α) (u : V) (H2 : Hp) (k : VK), R h u → Same H1 H2 → (∀ x H4, Same H2 H4 → k x H4) → te (some u :: st) H2 k)
    (hd : ∀ H2 ys, Same H1 H2 → H2 D = some (.lst ys) → ys.length = (ps.filter p).length → Q (.ref D) H2) : CompG (Itl K a) (gName 0) tt te 1 st D H1 Q := by
  refine ⟨fun i m zs H2 => m = xs.length - i ∧ i ≤ xs.length ∧ zs.length = ((ps.take i).filter p).length ∧ Same H1 H2 ∧ H2 D = some (.lst zs), ⟨xs.length, by simp, Nat.zero_le _, by simp, same_upd (Same.refl H1) hD, upd_same⟩, ?_⟩
  rintro i m zs H2 ⟨rfl, hi, hz, sm, e⟩
  by_cases hlt : i < xs.length
  · have ex : xs[i]? = some xs[i] := List.getElem?_eq_getElem hlt
    obtain ⟨h, ep⟩ : ∃ h, ps[i]? = some h := ⟨_, List.getElem?_eq_getElem (show i < ps.length by omega)⟩
    obtain ⟨u, e1, r⟩ := hx i h ep
    refine .inr ⟨⟨xs, _, sm.seq q1, ex⟩, ?_⟩
    rintro x H3 σ0 ⟨rfl, hx'⟩ l0
    have hx2 := hx' xs (sm.seq q1)
    rw [e1] at hx2
    cases hx2
    obtain ⟨a', rfl⟩ : ∃ a, σ0 = [a] := by
      match σ0, l0 with
      | [a], _ => exact ⟨a, rfl⟩
    refine ⟨⟨[some u], rfl, rfl⟩, ?_⟩
    have tk : ps.take (i + 1) = ps.take i ++ [h] := by rw [List.take_add_one, ep]; rfl
    have ln : ((ps.take i).filter p).length ≤ i := Nat.le_trans (List.length_filter_le _ _) (by simp; omega)
    refine ht h u _ _ r sm fun H4 s4 => ?_
    cases hp : p h with
    | true =>
      rw [if_pos rfl]
      refine hs h u _ _ r (sm.trans s4) fun y H5 s5 => ⟨s5 _ _ (s4 _ _ e), by omega, xs.length - (i + 1), by omega, rfl, hlt, ?_, same_upd (sm.trans (s4.trans s5)) hD, upd_same⟩
      rw [tk, List.filter_append]
      simp [hp, hz]
    | false =>
      rw [if_neg Bool.false_ne_true]
      refine ⟨xs.length - (i + 1), by omega, rfl, hlt, ?_, sm.trans s4, s4 _ _ e⟩
      rw [tk, List.filter_append]
      simp [hp, hz]
  · have ei : i = xs.length := by omega
    subst ei
    refine .inl ⟨⟨xs, sm.seq q1, Nat.le_refl _⟩, hd _ zs sm e ?_⟩
    rw [hz, List.take_of_length_le (by omega)]
end L2
set_option maxHeartbeats 4000000
namespace L2
open PySem PySem.Spec PyProof.Rows
section
variable {prog : Program} {w : World} {A : Around} {E : Value → Shared → Prop} {s : Shared}
end
end L2
set_option maxHeartbeats 4000000
namespace L2
open PySem PySem.Spec PyProof.Rows
section
variable {X : Cx}
end
section
variable {X : Cx}
end
end L2
set_option maxHeartbeats 4000000
namespace L2
open PySem PySem.Spec PyProof.Rows
section
variable {X : Cx} {e st : Expr} {te ts : TE} {pos p2 : Pos}
end
end L2
set_option maxHeartbeats 4000000
namespace L2
open PySem PySem.Spec PyProof.Rows
section
variable {X : Cx}
end
end L2
namespace Gc
theorem gstep {a b : Int} (ha : 0 ≤ a) (hb : 0 ≤ b) (h : b ≠ 0) : Int.gcd b (a % b) = Int.gcd a b := by
  rw [Int.gcd_comm a b]
  unfold Int.gcd
  have e : (a % b).natAbs = a.natAbs % b.natAbs := by
    rw [Int.natAbs_emod_of_nonneg ha]
  rw [e, Nat.gcd_comm b.natAbs (a.natAbs % b.natAbs), ← Nat.gcd_rec]
theorem gend {a : Int} (ha : 0 ≤ a) : (Int.gcd a 0 : Int) = a := by
  rw [Int.gcd_zero_right]; omega
theorem gabs (a b : Int) : Int.gcd (if a < 0 then -a else a) (if b < 0 then -b else b) = Int.gcd a b := by
  unfold Int.gcd
  have h1 : (if a < 0 then -a else a).natAbs = a.natAbs := by split <;> omega
  have h2 : (if b < 0 then -b else b).natAbs = b.natAbs := by split <;> omega
  rw [h1, h2]
end Gc
namespace Gc
theorem fdiv_mul {g t : Int} (h : g ≠ 0) : (g * t).fdiv g = t := by
  rw [Int.mul_comm]; exact Int.mul_fdiv_cancel _ h
noncomputable def frD (t b : Int) : Int := if b < 0 then -(Int.gcd t b : Int) else (Int.gcd t b : Int)
noncomputable def frT (t b : Int) : Int := t.fdiv (frD t b)
noncomputable def frB (t b : Int) : Int := b.fdiv (frD t b)
theorem gne {t b : Int} (h : b ≠ 0) : Int.gcd t b ≠ 0 := fun e => h (Int.gcd_eq_zero_iff.mp e).2
theorem frD_ne {t b : Int} (h : b ≠ 0) : frD t b ≠ 0 := by
  have := gne (t := t) h
  unfold frD; split <;> omega
theorem fr_split {t b : Int} (h : b ≠ 0) : t = frD t b * frT t b ∧ b = frD t b * frB t b := by
  have hd : (Int.gcd t b : Int) ∣ t := Int.gcd_dvd_left ..
  have hb : (Int.gcd t b : Int) ∣ b := Int.gcd_dvd_right ..
  have hd' : frD t b ∣ t := by unfold frD; split; · exact Int.neg_dvd.mpr hd
                               · exact hd
  have hb' : frD t b ∣ b := by unfold frD; split; · exact Int.neg_dvd.mpr hb
                               · exact hb
  obtain ⟨x, hx⟩ := hd'
  obtain ⟨y, hy⟩ := hb'
  have ne := frD_ne (t := t) h
  generalize hD : frD t b = d at *
  have e1 : frT t b = x := by unfold frT; rw [hD]; conv => lhs; rw [hx]
                              exact fdiv_mul ne
  have e2 : frB t b = y := by unfold frB; rw [hD]; conv => lhs; rw [hy]
                              exact fdiv_mul ne
  rw [e1, e2]; exact ⟨hx, hy⟩
theorem frB_pos {t b : Int} (h : b ≠ 0) : 0 < frB t b := by
  obtain ⟨_, e⟩ := fr_split (t := t) h
  have g := gne (t := t) h
  rcases Int.lt_trichotomy (frB t b) 0 with c | c | c
  · exfalso
    by_cases hb : b < 0
    · have hd : frD t b < 0 := by unfold frD; rw [if_pos hb]; omega
      have := Int.mul_pos_of_neg_of_neg hd c
      omega
    · have hd : 0 < frD t b := by unfold frD; rw [if_neg hb]; omega
      have := Int.mul_neg_of_pos_of_neg hd c
      omega
  · rw [c, Int.mul_zero] at e; exact absurd e h
  · exact c
theorem fr_gcd {t b : Int} (h : b ≠ 0) : Int.gcd (frT t b) (frB t b) = 1 := by
  obtain ⟨e1, e2⟩ := fr_split (t := t) h
  have g := gne (t := t) h
  have k : Int.gcd t b = (frD t b).natAbs * Int.gcd (frT t b) (frB t b) := by
    rw [← Int.gcd_mul_left, ← e1, ← e2]
  have hn : (frD t b).natAbs = Int.gcd t b := by unfold frD; split <;> omega
  rw [hn] at k
  have : Int.gcd t b * 1 = Int.gcd t b * Int.gcd (frT t b) (frB t b) := by rw [Nat.mul_one]; exact k
  exact (Nat.eq_of_mul_eq_mul_left (Nat.pos_of_ne_zero g) this).symm
theorem fr_cross {t b : Int} (h : b ≠ 0) : frT t b * b = t * frB t b := by
  obtain ⟨e1, e2⟩ := fr_split (t := t) h
  generalize frT t b = x at *
  generalize frB t b = y at *
  generalize frD t b = d at *
  subst e1 e2
  rw [Int.mul_left_comm, Int.mul_assoc]
theorem dvd_cop {k m n : Int} (h : k ∣ m * n) (c : Int.gcd k m = 1) : k ∣ n := by
  have h' : k.natAbs ∣ m.natAbs * n.natAbs := by rw [← Int.natAbs_mul]; exact Int.natAbs_dvd_natAbs.mpr h
  exact Int.natAbs_dvd_natAbs.mp (Nat.Coprime.dvd_of_dvd_mul_left c h')
theorem fr_same {a b c d : Int} (hb : 0 < b) (hd : 0 < d) (g1 : Int.gcd a b = 1) (g2 : Int.gcd c d = 1) (e : a * d = c * b) : a = c ∧ b = d := by
  have h1 : b ∣ d := by
    have : b ∣ a * d := ⟨c, by rw [e, Int.mul_comm]⟩
    have k : Int.gcd b a = 1 := by rw [Int.gcd_comm]; exact g1
    exact dvd_cop this k
  have h2 : d ∣ b := by
    have : d ∣ c * b := ⟨a, by rw [← e, Int.mul_comm]⟩
    have k : Int.gcd d c = 1 := by rw [Int.gcd_comm]; exact g2
    exact dvd_cop this k
  have hbd : b = d := Int.dvd_antisymm (by omega) (by omega) h1 h2
  subst hbd
  exact ⟨Int.eq_of_mul_eq_mul_right (by omega) e, rfl⟩
end Gc
namespace Gc
theorem cancel {k x y : Int} (h : k ≠ 0) (e : k * x = k * y) : x = y := Int.eq_of_mul_eq_mul_left h e
theorem fr_is {t b c d : Int} (hb : b ≠ 0) (hd : 0 < d) (g : Int.gcd c d = 1) (e : t * d = c * b) : frT t b = c ∧ frB t b = d := by
  have h := fr_cross (t := t) hb
  refine fr_same (frB_pos hb) hd (fr_gcd hb) g ?_
  refine cancel hb ?_
  generalize frT t b = x at *
  generalize frB t b = y at *
  grind
noncomputable def Sz (n : Nat) (i : Int) : Prop := i.natAbs < 2 ^ n
theorem Sz.mono {m n : Nat} {i : Int} (h : Sz m i) (hn : m ≤ n) : Sz n i := Nat.lt_of_lt_of_le h (Nat.pow_le_pow_right (by decide) hn)
theorem Sz.mul {m n : Nat} {i j : Int} (h1 : Sz m i) (h2 : Sz n j) : Sz (m + n) (i * j) := by
  unfold Sz at *
  rw [Int.natAbs_mul, Nat.pow_add]
  exact Nat.mul_lt_mul'' h1 h2
theorem Sz.sub {n : Nat} {i j : Int} (h1 : Sz n i) (h2 : Sz n j) : Sz (n + 1) (i - j) := by
  unfold Sz at *
  rw [Nat.pow_succ]; omega
theorem Sz.fr {n m : Nat} {a b : Int} (h : b ≠ 0) (sa : Sz n a) (sb : Sz m b) : Sz n (frT a b) ∧ Sz m (frB a b) := by
  obtain ⟨e1, e2⟩ := fr_split (t := a) h
  have nd := frD_ne (t := a) h
  have h1 : (frT a b).natAbs ≤ a.natAbs := by
    have : a.natAbs = (frD a b).natAbs * (frT a b).natAbs := by rw [← Int.natAbs_mul, ← e1]
    rw [this]; exact Nat.le_mul_of_pos_left _ (by omega)
  have h2 : (frB a b).natAbs ≤ b.natAbs := by
    have : b.natAbs = (frD a b).natAbs * (frB a b).natAbs := by rw [← Int.natAbs_mul, ← e2]
    rw [this]; exact Nat.le_mul_of_pos_left _ (by omega)
  exact ⟨Nat.lt_of_le_of_lt h1 sa, Nat.lt_of_le_of_lt h2 sb⟩
structure FrOK (a b : Int) : Prop where
  pos : 0 < b
  low : Int.gcd a b = 1
  s1 : Sz 200 a
  s2 : Sz 200 b
theorem FrOK.of {a b : Int} (h : 0 < b) (sa : Sz 200 a) (sb : Sz 200 b) : FrOK (frT a b) (frB a b) :=
  have z := Sz.fr (by omega) sa sb
  ⟨frB_pos (by omega), fr_gcd (by omega), z.1, z.2⟩
theorem frD_pos {a b : Int} (h : 0 < b) : frD a b = Int.gcd a b := if_neg (by omega)
end Gc
namespace Ch
noncomputable def binom : Nat → Nat → Nat
  | _, 0 => 1
  | 0, _ + 1 => 0
  | n + 1, k + 1 => binom n k + binom n (k + 1)
theorem b0 (n : Nat) : binom n 0 = 1 := by cases n <;> rfl
theorem bs (n k : Nat) : binom (n + 1) (k + 1) = binom n k + binom n (k + 1) := rfl
theorem blt : ∀ {n k : Nat}, n < k → binom n k = 0
  | 0, k + 1, _ => rfl
  | n + 1, k + 1, h => by rw [bs, blt (by omega : n < k), blt (by omega : n < k + 1)]
theorem bself : ∀ n : Nat, binom n n = 1
  | 0 => rfl
  | n + 1 => by rw [bs, bself n, blt (Nat.lt_succ_self n)]
theorem babs : ∀ n k : Nat, binom n (k + 1) * (k + 1) = binom n k * (n - k)
  | 0, k => by rw [show binom 0 (k + 1) = 0 from rfl]; simp
  | n + 1, 0 => by
    have ih := babs n 0
    rw [bs, b0, b0]
    rw [b0] at ih
    simp only [Nat.zero_add, Nat.mul_one, Nat.one_mul, Nat.sub_zero] at *
    omega
  | n + 1, k + 1 => by
    have i1 := babs n k
    have i2 := babs n (k + 1)
    rw [bs n (k + 1), bs n k]
    by_cases h : k < n
    · have e1 : n - k = (n - (k + 1)) + 1 := by omega
      have e2 : n + 1 - (k + 1) = n - k := by omega
      rw [e2]
      rw [e1] at i1 ⊢
      generalize n - (k + 1) = d at *
      have : (binom n (k + 1) + binom n (k + 1 + 1)) * (k + 1 + 1) = binom n (k + 1) * (k + 1) + binom n (k + 1) + binom n (k + 1 + 1) * (k + 1 + 1) := by
        rw [Nat.add_mul, Nat.mul_add (binom n (k + 1)) (k + 1) 1, Nat.mul_one]
      rw [this, i1, i2, Nat.add_mul, Nat.mul_add (binom n k) d 1, Nat.mul_add (binom n (k + 1)) d 1]
      omega
    · have z1 : binom n (k + 1) = 0 := blt (by omega)
      have z2 : binom n (k + 1 + 1) = 0 := blt (by omega)
      have e2 : n + 1 - (k + 1) = 0 := by omega
      rw [z1, z2, e2]; simp
theorem bsymm : ∀ {n k : Nat}, k ≤ n → binom n (n - k) = binom n k
  | 0, 0, _ => rfl
  | n + 1, 0, _ => by rw [Nat.sub_zero, bself, b0]
  | n + 1, k + 1, h => by
    by_cases e : k = n
    · subst e; rw [Nat.sub_self, b0, bself]
    · have e1 : n + 1 - (k + 1) = (n - (k + 1)) + 1 := by omega
      have e2 : n - (k + 1) + 1 = n - k := by omega
      rw [e1, bs, bs, e2, bsymm (by omega : k + 1 ≤ n), bsymm (by omega : k ≤ n)]
      omega
theorem bturn (n t : Nat) : binom n t * (n - t) / (t + 1) = binom n (t + 1) := by
  rw [← babs, Nat.mul_div_cancel _ (Nat.succ_pos t)]
noncomputable def cho (n k : Int) : Int := if k < 0 ∨ n < k then 0 else (binom n.toNat k.toNat : Int)
theorem cho_out {n k : Int} (h : k < 0 ∨ n < k) : cho n k = 0 := if_pos h
theorem cho_in {n k : Int} (h0 : 0 ≤ k) (h1 : k ≤ n) : cho n k = (binom n.toNat k.toNat : Int) := if_neg (by omega)
theorem cho_min {n k : Int} (h0 : 0 ≤ k) (h1 : k ≤ n) : (binom n.toNat (if n - k < k then n - k else k).toNat : Int) = cho n k := by
  rw [cho_in h0 h1]
  by_cases c : n - k < k
  · rw [if_pos c]
    have e : (n - k).toNat = n.toNat - k.toNat := by omega
    rw [e, bsymm (by omega)]
  · rw [if_neg c]
theorem cho_turn {n : Int} {t : Nat} (h : (t : Int) < n) : (binom n.toNat t : Int) * (n - t) / ((t : Int) + 1) = (binom n.toNat (t + 1) : Int) := by
  rw [← bturn n.toNat t]
  have e : n - (t : Int) = ((n.toNat - t : Nat) : Int) := by omega
  rw [e]
  simp
noncomputable def bits (b : Nat) : Nat → Nat
  | 0 => 0
  | j + 1 => bits b j + b / 2 ^ j % 2
noncomputable def cnt (n : Nat) (k : Int) : Nat → Nat
  | 0 => 0
  | b + 1 => cnt n k b + (if (bits b n : Int) = k then 1 else 0)
end Ch
namespace Gc
open Ch
theorem rle {a b c : Rat} (h : a ≤ b) (hc : 0 ≤ c) : c * a ≤ c * b := Rat.mul_le_mul_of_nonneg_left h hc
noncomputable def sm (f : Nat → Rat) : Nat → Rat
  | 0 => 0
  | m + 1 => sm f m + f m
theorem sm_add (f g : Nat → Rat) : ∀ m, sm (fun k => f k + g k) m = sm f m + sm g m
  | 0 => by simp only [sm]; grind
  | m + 1 => by simp only [sm, sm_add f g m]; grind
theorem sm_mul (c : Rat) (f : Nat → Rat) : ∀ m, sm (fun k => c * f k) m = c * sm f m
  | 0 => by simp only [sm]; grind
  | m + 1 => by simp only [sm, sm_mul c f m]; grind
theorem sm_congr {f g : Nat → Rat} : ∀ {m : Nat}, (∀ k, k < m → f k = g k) → sm f m = sm g m
  | 0, _ => rfl
  | m + 1, h => by
      have h1 := sm_congr (m := m) fun k hk => h k (by omega)
      have h2 := h m (by omega)
      simp only [sm, h1, h2]
theorem sm_zero {f : Nat → Rat} : ∀ {m : Nat}, (∀ k, k < m → f k = 0) → sm f m = 0
  | 0, _ => rfl
  | m + 1, h => by
      have h1 := sm_zero (m := m) fun k hk => h k (by omega)
      have h2 := h m (by omega)
      simp only [sm, h1, h2]; grind
theorem sm_front (f : Nat → Rat) : ∀ m, sm f (m + 1) = f 0 + sm (fun k => f (k + 1)) m
  | 0 => by simp only [sm]; grind
  | m + 1 => by rw [sm, sm_front f m]; simp only [sm]; grind
noncomputable def wt (p : Rat) : Nat → Nat → Rat
  | 0, 0 => 1
  | 0, _ + 1 => 0
  | n + 1, 0 => (1 - p) * wt p n 0
  | n + 1, k + 1 => (1 - p) * wt p n (k + 1) + p * wt p n k
theorem wt_zero (p : Rat) : ∀ n, wt p n 0 = (1 - p) ^ n
  | 0 => by rw [wt]; grind
  | n + 1 => by rw [wt, wt_zero p n]; grind
theorem wt_form (p : Rat) : ∀ n k, wt p n k = (binom n k : Rat) * p ^ k * (1 - p) ^ (n - k)
  | 0, 0 => by simp [wt, binom]
  | 0, k + 1 => by simp [wt, binom]
  | n + 1, 0 => by rw [wt_zero, b0]; simp
  | n + 1, k + 1 => by
      rw [wt, wt_form p n k, wt_form p n (k + 1), bs]
      have e : n + 1 - (k + 1) = n - k := by omega
      rw [e]
      by_cases h : k < n
      · have e2 : n - k = (n - (k + 1)) + 1 := by omega
        rw [e2]; push_cast; grind
      · rw [blt (show n < k + 1 by omega)]; push_cast; grind
noncomputable def cu (p : Rat) (n m : Nat) : Rat := sm (wt p n) m
theorem cu_step (p : Rat) (n m : Nat) : cu p (n + 1) (m + 1) = (1 - p) * cu p n (m + 1) + p * cu p n m := by
  simp only [cu]
  rw [sm_front, sm_front (wt p n)]
  have : sm (fun k => wt p (n + 1) (k + 1)) m = (1 - p) * sm (fun k => wt p n (k + 1)) m + p * sm (wt p n) m := by
    rw [← sm_mul, ← sm_mul, ← sm_add]; exact sm_congr fun k _ => by rw [wt]
  rw [this, wt]; grind
theorem cu_zero (p : Rat) (n : Nat) : cu p n 0 = 0 := rfl
theorem cu_all (p : Rat) : ∀ {n m : Nat}, n < m → cu p n m = 1
  | 0, m + 1, _ => by
      rw [cu, sm_front, sm_zero (fun k _ => by rw [wt]), wt]; grind
  | n + 1, m + 1, h => by rw [cu_step, cu_all p (show n < m + 1 by omega), cu_all p (show n < m by omega)]; grind
noncomputable def rn (p : Rat) (n i d : Nat) : Rat := cu p n d - cu p n i
end Gc
namespace Gc
open Ch
noncomputable def Cvx (G : Nat → Rat) : Prop := ∀ k, G (k + 1) - G k ≤ G (k + 2) - G (k + 1)
theorem Cvx.steps {G : Nat → Rat} (h : Cvx G) (a : Nat) : ∀ e, G (a + 1) - G a ≤ G (a + e + 1) - G (a + e)
  | 0 => Rat.le_refl
  | e + 1 => by
      have := h.steps a e
      have s := h (a + e)
      have e1 : a + (e + 1) = a + e + 1 := by omega
      have e2 : a + (e + 1) + 1 = a + e + 2 := by omega
      rw [e2, e1]; grind
theorem Cvx.up {G : Nat → Rat} (h : Cvx G) (a : Nat) : ∀ e : Nat, (e : Rat) * (G (a + 1) - G a) ≤ G (a + e) - G a
  | 0 => by have : a + 0 = a := rfl
            rw [this]; push_cast; grind
  | e + 1 => by
      have i := h.up a e
      have s := h.steps a e
      have e1 : a + (e + 1) = a + e + 1 := by omega
      rw [e1]; push_cast; grind
theorem Cvx.dn {G : Nat → Rat} (h : Cvx G) (a : Nat) : ∀ e : Nat, G (a + e) - G a ≤ (e : Rat) * (G (a + e + 1) - G (a + e))
  | 0 => by have : a + 0 = a := rfl
            rw [this]; push_cast; grind
  | e + 1 => by
      have i := h.dn a e
      have s := h (a + e)
      have m := rle s (show (0 : Rat) ≤ (e : Rat) by exact_mod_cast Nat.zero_le e)
      have e1 : a + (e + 1) = a + e + 1 := by omega
      have e2 : a + (e + 1) + 1 = a + e + 2 := by omega
      rw [e2, e1]; push_cast; grind
theorem castpos {e : Nat} (h : 0 < e) : (0 : Rat) < (e : Rat) := by exact_mod_cast h
theorem pos_of {e x : Rat} (he : 0 < e) (h : 0 < e * x) : 0 < x := by
  by_cases hx : 0 < x
  · exact hx
  · have := rle (show x ≤ 0 by grind) (show 0 ≤ e by grind); grind
theorem nonneg_of {e x : Rat} (he : 0 < e) (h : 0 ≤ e * x) : 0 ≤ x := by
  by_cases hx : 0 ≤ x
  · exact hx
  · have := Rat.mul_pos he (show 0 < -x by grind); grind
theorem Cvx.out {G : Nat → Rat} (h : Cvx G) {a d k : Nat} (ha : G a = 0) (hd : G d = 0) (had : a < d) (h1 : k ≤ a ∨ d ≤ k) : 0 ≤ G k := by
  obtain ⟨f, rfl⟩ := Nat.exists_eq_add_of_le (Nat.le_of_lt had)
  have fp := castpos (show 0 < f by omega)
  cases h1 with
  | inl h1 =>
    obtain ⟨e, rfl⟩ := Nat.exists_eq_add_of_le h1
    have u := h.dn k e
    have v := h.up (k + e) f
    have x : 0 ≤ -(G (k + e + 1) - G (k + e)) := nonneg_of fp (by grind)
    have y := Rat.mul_nonneg (show (0 : Rat) ≤ (e : Rat) by exact_mod_cast Nat.zero_le e) x
    grind
  | inr h1 =>
    obtain ⟨e, rfl⟩ := Nat.exists_eq_add_of_le h1
    have u := h.dn a f
    have v := h.up (a + f) e
    have x : 0 ≤ G (a + f + 1) - G (a + f) := nonneg_of fp (by grind)
    have y := Rat.mul_nonneg (show (0 : Rat) ≤ (e : Rat) by exact_mod_cast Nat.zero_le e) x
    grind
end Gc
namespace Gc
open Ch
theorem rden (r : Rat) : (0 : Int) < (r.den : Int) := by have := r.den_nz; omega
theorem rgcd (r : Rat) : Int.gcd r.num (r.den : Int) = 1 := by
  have := r.reduced
  rw [Int.gcd]; simpa [Nat.Coprime] using this
theorem rdenQ (r : Rat) : (r.den : Rat) ≠ 0 := by
  have := r.den_nz
  intro h; exact this (by exact_mod_cast h)
theorem rsplit (r : Rat) : r * (r.den : Rat) = (r.num : Rat) := by
  have h := Rat.mkRat_self r
  rw [Rat.mkRat_eq_div] at h
  have d := rdenQ r
  generalize (r.num : Rat) = x at *
  generalize (r.den : Rat) = y at *
  grind
theorem fr_rat {t b : Int} (h : b ≠ 0) {r : Rat} (e : r * (b : Rat) = (t : Rat)) : frT t b = r.num ∧ frB t b = (r.den : Int) := by
  refine fr_is h (rden r) (rgcd r) ?_
  have s := rsplit r
  have : ((t * (r.den : Int) : Int) : Rat) = ((r.num * b : Int) : Rat) := by push_cast; rw [← e, ← s]; grind
  exact_mod_cast this
theorem castlt {a b : Int} : ((a : Rat) < (b : Rat)) ↔ a < b := Rat.intCast_lt_intCast
theorem r_under (r s : Rat) : r.num * (s.den : Int) < s.num * (r.den : Int) ↔ r < s := by
  have a := rsplit r; have b := rsplit s
  have dr : (0 : Rat) < (r.den : Rat) := by exact_mod_cast (show 0 < r.den by have := r.den_nz; omega)
  have ds : (0 : Rat) < (s.den : Rat) := by exact_mod_cast (show 0 < s.den by have := s.den_nz; omega)
  have p := Rat.mul_pos dr ds
  rw [← castlt]; push_cast; rw [← a, ← b]
  constructor
  · intro h
    have := pos_of p (x := s - r) (by grind); grind
  · intro h
    have := Rat.mul_pos p (show 0 < s - r by grind); grind
theorem r_nonneg (r : Rat) : 0 ≤ r.num ↔ 0 ≤ r := Rat.num_nonneg
theorem r_le1 (r : Rat) : r.num ≤ (r.den : Int) ↔ r ≤ 1 := by
  have := r_under 1 r
  have e1 : (1 : Rat).num = 1 := rfl
  have e2 : ((1 : Rat).den : Int) = 1 := rfl
  rw [e1, e2] at this
  constructor
  · intro h
    by_cases c : 1 < r
    · exact absurd (this.mpr c) (by omega)
    · grind
  · intro h
    by_cases c : 1 * (r.den : Int) < r.num * 1
    · have := this.mp c; grind
    · omega
noncomputable def rq (t b : Int) : Rat := (t : Rat) / (b : Rat)
noncomputable def Ov (B : Nat) (r : Rat) : Prop := ∃ m : Int, r * (B : Rat) = (m : Rat)
theorem Ov.dvd {B : Nat} {r : Rat} (h : Ov B r) : r.den ∣ B := by
  obtain ⟨m, hm⟩ := h
  have s := rsplit r
  have : ((r.num * (B : Int) : Int) : Rat) = ((m * (r.den : Int) : Int) : Rat) := by push_cast; rw [← hm, ← s]; grind
  have e : r.num * (B : Int) = m * (r.den : Int) := by exact_mod_cast this
  have d : (r.den : Int) ∣ (B : Int) := dvd_cop (k := (r.den : Int)) (m := r.num) ⟨m, by rw [e]; exact Int.mul_comm _ _⟩ (by rw [Int.gcd_comm]; exact rgcd r)
  exact_mod_cast d
theorem Ov.self (r : Rat) : Ov r.den r := ⟨r.num, rsplit r⟩
theorem Ov.sub {B : Nat} {r s : Rat} (h : Ov B r) (k : Ov B s) : Ov B (r - s) := by
  obtain ⟨a, ha⟩ := h; obtain ⟨b, hb⟩ := k
  exact ⟨a - b, by push_cast; rw [← ha, ← hb]; grind⟩
theorem Ov.mul {A B : Nat} {r s : Rat} (h : Ov A r) (k : Ov B s) : Ov (A * B) (r * s) := by
  obtain ⟨a, ha⟩ := h; obtain ⟨b, hb⟩ := k
  exact ⟨a * b, by push_cast; rw [← ha, ← hb]; grind⟩
theorem Ov.up {A B : Nat} {r : Rat} (h : Ov A r) (k : A ∣ B) : Ov B r := by
  obtain ⟨c, rfl⟩ := k
  obtain ⟨a, ha⟩ := h
  exact ⟨a * c, by push_cast; rw [← ha]; grind⟩
theorem Ov.one (B : Nat) : Ov B 1 := ⟨(B : Int), by push_cast; grind⟩
structure RSz (n : Nat) (r : Rat) : Prop where
  t : Sz n r.num
  b : Sz n (r.den : Int)
theorem RSz.of {n B : Nat} {r : Rat} (h : Ov B r) (hB : 0 < B) (hn : B < 2 ^ n) (h0 : 0 ≤ r) (h1 : r ≤ 1) : RSz n r := by
  have a := (r_nonneg r).mpr h0
  have b := (r_le1 r).mpr h1
  have c := Nat.le_of_dvd hB h.dvd
  constructor <;> (unfold Sz; omega)
end Gc
namespace Gc
open Ch
theorem rmul_pow (a b : Rat) : ∀ n : Nat, (a * b) ^ n = a ^ n * b ^ n
  | 0 => by simp
  | n + 1 => by rw [Rat.pow_succ, Rat.pow_succ, Rat.pow_succ, rmul_pow a b n]; grind
theorem rpow_add (a : Rat) (m : Nat) : ∀ n : Nat, a ^ (m + n) = a ^ m * a ^ n
  | 0 => by simp
  | n + 1 => by rw [← Nat.add_assoc, Rat.pow_succ, Rat.pow_succ, rpow_add a m n]; grind
theorem icast_pow (a : Int) : ∀ n : Nat, ((a ^ n : Int) : Rat) = (a : Rat) ^ n
  | 0 => by simp
  | n + 1 => by rw [Int.pow_succ, Rat.pow_succ, ← icast_pow a n]; push_cast; rfl
noncomputable def wtop (p : Rat) (n k : Nat) : Int := (binom n k : Int) * p.num ^ k * ((p.den : Int) - p.num) ^ (n - k)
theorem wtop_is (p : Rat) {n k : Nat} (h : k ≤ n) : wt p n k * (((p.den : Int) ^ n : Int) : Rat) = ((wtop p n k : Int) : Rat) := by
  obtain ⟨m, rfl⟩ := Nat.exists_eq_add_of_le h
  have s := rsplit p
  have e1 : k + m - k = m := by omega
  rw [wt_form, wtop, e1, icast_pow, rpow_add]
  push_cast
  have a1 : p ^ k * (p.den : Rat) ^ k = (p.num : Rat) ^ k := by rw [← rmul_pow, s]
  have a2 : (1 - p) * (p.den : Rat) = (p.den : Rat) - (p.num : Rat) := by rw [← s]; grind
  have a3 : (1 - p) ^ m * (p.den : Rat) ^ m = ((p.den : Rat) - (p.num : Rat)) ^ m := by rw [← rmul_pow, a2]
  have i1 : ((p.num ^ k : Int) : Rat) = (p.num : Rat) ^ k := icast_pow _ _
  have i2 : ((((p.den : Int) - p.num) ^ m : Int) : Rat) = ((p.den : Rat) - (p.num : Rat)) ^ m := by rw [icast_pow]; push_cast; rfl
  first
  | rw [i1, i2, ← a1, ← a3]
  | rw [← a1, ← a3]
  generalize p ^ k = x
  generalize (1 - p) ^ m = y
  grind
noncomputable def ism (f : Nat → Int) : Nat → Int
  | 0 => 0
  | m + 1 => ism f m + f m
theorem ism_cast {f : Nat → Int} {g : Nat → Rat} {c : Rat} : ∀ {m : Nat}, (∀ k, k < m → g k * c = (f k : Rat)) → sm g m * c = ((ism f m : Int) : Rat)
  | 0, _ => by simp only [sm, ism]; push_cast; grind
  | m + 1, h => by
      have i := ism_cast (m := m) fun k hk => h k (by omega)
      have j := h m (by omega)
      simp only [sm, ism]; push_cast; grind
theorem Sz.powN {m : Nat} {b : Int} (h : Sz m b) : ∀ i : Nat, Sz (m * i + 1) (b ^ i)
  | 0 => by rw [Int.pow_zero, Nat.mul_zero]; show (1 : Int).natAbs < 2 ^ 1; decide
  | i + 1 => by
      rw [Int.pow_succ]
      exact ((Sz.powN h i).mul h).mono (by rw [Nat.mul_succ]; omega)
theorem binom_le : ∀ n k : Nat, binom n k ≤ 2 ^ n
  | 0, 0 => by decide
  | 0, k + 1 => by simp [binom]
  | n + 1, 0 => by rw [b0]; exact Nat.one_le_two_pow
  | n + 1, k + 1 => by
      have a := binom_le n k
      have b := binom_le n (k + 1)
      rw [bs, Nat.pow_succ]; omega
theorem sz_binom (n k : Nat) : Sz (n + 1) (binom n k : Int) := by
  unfold Sz
  have := binom_le n k
  rw [Nat.pow_succ]
  have : 0 < 2 ^ n := Nat.two_pow_pos n
  omega
theorem sz_sub {m : Nat} {a b : Int} (h0 : 0 ≤ a) (h1 : a ≤ b) (sb : Sz m b) : Sz m (b - a) := by unfold Sz at *; omega
theorem sz_le {m : Nat} {a b : Int} (h0 : 0 ≤ a) (h1 : a ≤ b) (sb : Sz m b) : Sz m a := by unfold Sz at *; omega
end Gc
namespace Gc
open Ch
theorem rn_all (p : Rat) (n : Nat) : rn p n 0 (n + 1) = 1 := by unfold rn; rw [cu_all p (by omega), cu_zero]; grind
noncomputable def rsum (p : Rat) (n i j : Nat) : Rat := rn p n i (max i (j + 1))
end Gc
namespace Pe
noncomputable def wrd (p : Int × Int) (k : Int) : Option Bool := if k ≤ p.1 then some false else if p.2 ≤ k then some true else none
noncomputable def sm : Nat → (Nat → Int) → Int
  | 0, _ => 0
  | n + 1, f => sm n f + f n
theorem sm_congr : ∀ {n : Nat} {f g : Nat → Int}, (∀ k, k < n → f k = g k) → sm n f = sm n g
  | 0, _, _, _ => rfl
  | n + 1, f, g, h => by
    show sm n f + f n = sm n g + g n
    rw [sm_congr (n := n) fun k hk => h k (by omega), h n (by omega)]
theorem sm_add : ∀ (n : Nat) (f g : Nat → Int), sm n (fun k => f k + g k) = sm n f + sm n g
  | 0, _, _ => rfl
  | n + 1, f, g => by
    show sm n (fun k => f k + g k) + (f n + g n) = sm n f + f n + (sm n g + g n)
    rw [sm_add n f g]
    omega
theorem sm_mul : ∀ (n : Nat) (c : Int) (f : Nat → Int), sm n (fun k => c * f k) = c * sm n f
  | 0, c, _ => by show (0 : Int) = c * 0; rw [Int.mul_zero]
  | n + 1, c, f => by
    show sm n (fun k => c * f k) + c * f n = c * (sm n f + f n)
    rw [sm_mul n c f, Int.mul_add]
theorem sm_zero : ∀ {n : Nat} {f : Nat → Int}, (∀ k, k < n → f k = 0) → sm n f = 0
  | 0, _, _ => rfl
  | n + 1, f, h => by
    show sm n f + f n = 0
    rw [sm_zero (n := n) fun k hk => h k (by omega), h n (by omega)]
    rfl
noncomputable def bAt (bs : List (Int × Int)) (t : Nat) : Int × Int := bs.getD t (0, 0)
noncomputable def gw (bs : List (Int × Int)) : Nat → Nat → Int
  | 0, k => if k = 0 then 1 else 0
  | t + 1, k => if wrd (bAt bs t) k = none then gw bs t k + (if k = 0 then 0 else gw bs t (k - 1)) else 0
noncomputable def wy (bs : List (Int × Int)) (t k : Nat) : Int := gw bs t k + (if k = 0 then 0 else gw bs t (k - 1))
noncomputable def wT (a c : Int) (t k : Nat) : Int := a ^ k * c ^ (t - k)
noncomputable def eT (bs : List (Int × Int)) (a c : Int) (f : Bool → Bool) (t : Nat) : Int := sm (t + 2) fun k => if (wrd (bAt bs t) k).any f then wy bs t k * wT a c (t + 1) k else 0
noncomputable def all2 : Bool → Bool := fun _ => true
noncomputable def eN (bs : List (Int × Int)) (a c : Int) (f : Bool → Bool) (n t : Nat) : Int := eT bs a c f t * (a + c) ^ (n - (t + 1))
noncomputable def cN (bs : List (Int × Int)) (a c : Int) (f : Bool → Bool) (n m : Nat) : Int := sm m (eN bs a c f n)
noncomputable def mN (bs : List (Int × Int)) (a c : Int) (n m : Nat) : Int := sm m fun t => ((t : Int) + 1) * eN bs a c all2 n t
end Pe
namespace Ec
noncomputable def cnR : List Int → Nat → Int → Int
  | [], 0, t => if t = 0 then 1 else 0
  | [], _ + 1, _ => 0
  | _ :: r, 0, t => cnR r 0 t
  | v :: r, j + 1, t => cnR r (j + 1) t + cnR r j (t - v)
theorem cnR_perm {a b : List Int} (h : a.Perm b) : ∀ (j : Nat) (t : Int), cnR a j t = cnR b j t := by
  induction h with
  | nil => intro j t; rfl
  | cons x _ ih =>
    intro j t
    cases j with
    | zero => exact ih 0 t
    | succ j => show cnR _ (j + 1) t + cnR _ j (t - x) = cnR _ (j + 1) t + cnR _ j (t - x); rw [ih, ih]
  | swap x y l =>
    intro j t
    match j with
    | 0 => rfl
    | 1 => show cnR l 1 t + cnR l 0 (t - x) + cnR l 0 (t - y) = cnR l 1 t + cnR l 0 (t - y) + cnR l 0 (t - x); omega
    | j + 2 =>
      show cnR l (j + 2) t + cnR l (j + 1) (t - x) + (cnR l (j + 1) (t - y) + cnR l j (t - y - x)) = cnR l (j + 2) t + cnR l (j + 1) (t - y) + (cnR l (j + 1) (t - x) + cnR l j (t - x - y))
      rw [show t - y - x = t - x - y by omega]
      omega
  | trans _ _ ih1 ih2 => intro j t; rw [ih1, ih2]
theorem cnR_snoc0 (vs : List Int) (v t : Int) : cnR (vs ++ [v]) 0 t = cnR vs 0 t := by
  rw [cnR_perm (List.perm_append_comm (l₁ := vs) (l₂ := [v]))]
  rfl
theorem cnR_snoc (vs : List Int) (v : Int) (j : Nat) (t : Int) : cnR (vs ++ [v]) (j + 1) t = cnR vs (j + 1) t + cnR vs j (t - v) := by
  rw [cnR_perm (List.perm_append_comm (l₁ := vs) (l₂ := [v]))]
  rfl
noncomputable def ch : Nat → Nat → Nat
  | _, 0 => 1
  | 0, _ + 1 => 0
  | n + 1, k + 1 => ch n (k + 1) + ch n k
noncomputable def ct (S : List Int) (t : Int) : Int := ((S.filter fun s => decide (s = t)).length : Int)
theorem ct_cons (s : Int) (S : List Int) (t : Int) : ct (s :: S) t = ct S t + if s = t then 1 else 0 := by
  unfold ct
  by_cases c : s = t
  · rw [List.filter_cons_of_pos (by simpa using c), if_pos c]
    simp
  · rw [List.filter_cons_of_neg (by simpa using c), if_neg c, Int.add_zero]
noncomputable abbrev Spl := List Int × List Int
noncomputable def one1 (sz : Nat) (v : Int) (p : Spl) : List Spl := if p.1.length < sz then [(p.1 ++ [v], p.2)] else []
noncomputable def two1 (r : Nat) (v : Int) (p : Spl) : List Spl := if p.2.length < r then [(p.1, p.2 ++ [v])] else []
noncomputable def stp (sz r : Nat) (v : Int) (fs : List Spl) : List Spl := fs.flatMap fun p => one1 sz v p ++ two1 r v p
noncomputable def cq (fs : List Spl) (j : Nat) (t : Int) : Int := ((fs.filter fun p => decide (p.1.length = j ∧ p.1.sum = t)).length : Int)
structure SpOk (sz r : Nat) (vs : List Int) (fs : List Spl) : Prop where
  per : ∀ p ∈ fs, (p.1 ++ p.2).Perm vs
  l1 : ∀ p ∈ fs, p.1.length ≤ sz
  l2 : ∀ p ∈ fs, p.2.length ≤ r
  cnt : ∀ j t, j ≤ sz → vs.length - j ≤ r → cq fs j t = cnR vs j t
theorem cq_app (a b : List Spl) (j : Nat) (t : Int) : cq (a ++ b) j t = cq a j t + cq b j t := by
  unfold cq
  rw [List.filter_append, List.length_append]
  omega
theorem cq_cons (p : Spl) (a : List Spl) (j : Nat) (t : Int) : cq (p :: a) j t = cq [p] j t + cq a j t := cq_app [p] a j t
theorem cq_one (p : Spl) (j : Nat) (t : Int) : cq [p] j t = if p.1.length = j ∧ p.1.sum = t then 1 else 0 := by
  unfold cq
  by_cases c : p.1.length = j ∧ p.1.sum = t
  · rw [List.filter_cons_of_pos (by simpa using c), if_pos c]; rfl
  · rw [List.filter_cons_of_neg (by simpa using c), if_neg c]; rfl
theorem sum_snoc (l : List Int) (v : Int) : (l ++ [v]).sum = l.sum + v := by simp
theorem cq_step0 {sz r : Nat} {v t : Int} : ∀ {fs : List Spl}, (∀ p ∈ fs, p.1.length = 0 → p.2.length < r) → cq (stp sz r v fs) 0 t = cq fs 0 t
  | [], _ => rfl
  | p :: fs, h => by
    have ih := cq_step0 (sz := sz) (v := v) (t := t) (fs := fs) fun q hq => h q (by simp [hq])
    show cq ((one1 sz v p ++ two1 r v p) ++ stp sz r v fs) 0 t = _
    rw [cq_app, cq_app, ih, cq_cons p fs]
    have e1 : cq (one1 sz v p) 0 t = 0 := by
      unfold one1
      split
      · rw [cq_one, if_neg (by simp)]
      · rfl
    have e2 : cq (two1 r v p) 0 t = cq [p] 0 t := by
      unfold two1
      split
      · rw [cq_one, cq_one]
      · rename_i c
        rw [cq_one, if_neg (fun z => c (h p (by simp) z.1))]
        rfl
    rw [e1, e2]
    omega
theorem cq_step {sz r : Nat} {v t : Int} {j : Nat} (hj : j + 1 ≤ sz) : ∀ {fs : List Spl}, (∀ p ∈ fs, p.1.length = j + 1 → p.2.length < r) → cq (stp sz r v fs) (j + 1) t = cq fs (j + 1) t + cq fs j (t - v)
  | [], _ => rfl
  | p :: fs, h => by
    have ih := cq_step (v := v) (t := t) hj (fs := fs) fun q hq => h q (by simp [hq])
    show cq ((one1 sz v p ++ two1 r v p) ++ stp sz r v fs) (j + 1) t = _
    rw [cq_app, cq_app, ih, cq_cons p fs (j + 1), cq_cons p fs j]
    have e1 : cq (one1 sz v p) (j + 1) t = cq [p] j (t - v) := by
      unfold one1
      split
      · rw [cq_one, cq_one]
        show (if (p.1 ++ [v]).length = j + 1 ∧ (p.1 ++ [v]).sum = t then (1 : Int) else 0) = _
        rw [sum_snoc, List.length_append]
        have : (p.1.length + [v].length = j + 1 ∧ p.1.sum + v = t) ↔ (p.1.length = j ∧ p.1.sum = t - v) := by simp; omega
        simp only [this]
      · rename_i c
        rw [cq_one, if_neg (fun z => c (by omega))]
        rfl
    have e2 : cq (two1 r v p) (j + 1) t = cq [p] (j + 1) t := by
      unfold two1
      split
      · rw [cq_one, cq_one]
      · rename_i c
        rw [cq_one, if_neg (fun z => c (h p (by simp) z.1))]
        rfl
    rw [e1, e2]
    omega
theorem stp_mem {sz r : Nat} {v : Int} {fs : List Spl} {q : Spl} (h : q ∈ stp sz r v fs) : ∃ p ∈ fs, (p.1.length < sz ∧ q = (p.1 ++ [v], p.2)) ∨ (p.2.length < r ∧ q = (p.1, p.2 ++ [v])) := by
  obtain ⟨p, hp, hq⟩ := List.mem_flatMap.mp h
  refine ⟨p, hp, ?_⟩
  rcases List.mem_append.mp hq with z | z
  · unfold one1 at z
    split at z
    · rename_i c; exact .inl ⟨c, List.mem_singleton.mp z⟩
    · cases z
  · unfold two1 at z
    split at z
    · rename_i c; exact .inr ⟨c, List.mem_singleton.mp z⟩
    · cases z
theorem SpOk.step {sz r : Nat} {vs : List Int} {fs : List Spl} (h : SpOk sz r vs fs) (v : Int) : SpOk sz r (vs ++ [v]) (stp sz r v fs) where
  per := fun q hq => by
    obtain ⟨p, hp, ⟨_, rfl⟩ | ⟨_, rfl⟩⟩ := stp_mem hq
    · show (p.1 ++ [v] ++ p.2).Perm (vs ++ [v])
      have a := h.per p hp
      have b : (p.1 ++ [v] ++ p.2).Perm (p.1 ++ p.2 ++ [v]) := by
        rw [List.append_assoc, List.append_assoc]
        exact (List.perm_append_comm (l₁ := [v]) (l₂ := p.2)).append_left p.1
      exact b.trans (a.append_right [v])
    · show (p.1 ++ (p.2 ++ [v])).Perm (vs ++ [v])
      rw [← List.append_assoc]
      exact (h.per p hp).append_right [v]
  l1 := fun q hq => by
    obtain ⟨p, hp, ⟨c, rfl⟩ | ⟨_, rfl⟩⟩ := stp_mem hq
    · show (p.1 ++ [v]).length ≤ sz
      simp; omega
    · exact h.l1 p hp
  l2 := fun q hq => by
    obtain ⟨p, hp, ⟨_, rfl⟩ | ⟨c, rfl⟩⟩ := stp_mem hq
    · exact h.l2 p hp
    · show (p.2 ++ [v]).length ≤ r
      simp; omega
  cnt := fun j t hj hl => by
    have hl' : (vs ++ [v]).length = vs.length + 1 := by simp
    rw [hl'] at hl
    have ln : ∀ p ∈ fs, p.1.length + p.2.length = vs.length := fun p hp => by have := (h.per p hp).length_eq; simpa using this
    cases j with
    | zero => rw [cq_step0 (fun p hp z => by have := ln p hp; omega), cnR_snoc0, h.cnt 0 t (by omega) (by omega)]
    | succ j =>
      rw [cq_step hj (fun p hp z => by have := ln p hp; omega), cnR_snoc, h.cnt (j + 1) t hj (by omega), h.cnt j (t - v) (by omega) (by omega)]
theorem SpOk.done {sz r : Nat} {vs : List Int} {fs : List Spl} (h : SpOk sz r vs fs) (hl : vs.length = sz + r) : (∀ p ∈ fs, p.1.length = sz) ∧ ∀ t, ct (fs.map fun p => p.1.sum) t = cnR vs sz t := by
  have ll : ∀ p ∈ fs, p.1.length = sz := fun p hp => by
    have := (h.per p hp).length_eq
    have := h.l1 p hp
    have := h.l2 p hp
    simp at *
    omega
  refine ⟨ll, fun t => ?_⟩
  rw [← h.cnt sz t (Nat.le_refl _) (by omega)]
  unfold ct cq
  rw [List.filter_map, List.length_map]
  congr 2
  refine List.filter_congr fun p hp => ?_
  simp [ll p hp]
end Ec
namespace Ec
set_option maxRecDepth 10000
noncomputable abbrev Ep := Int × Int
noncomputable def exs (sz v : Int) (fs : List Ep) : List Ep := fs ++ (fs.filter fun p => decide (p.1 < sz)).map fun p => (p.1 + 1, p.2 + v)
noncomputable def ce (fs : List Ep) (j t : Int) : Int := ((fs.filter fun p => decide (p.1 = j ∧ p.2 = t)).length : Int)
theorem ce_app (a b : List Ep) (j t : Int) : ce (a ++ b) j t = ce a j t + ce b j t := by
  unfold ce
  rw [List.filter_append, List.length_append]
  omega
theorem ce_map0 {sz v t : Int} {fs : List Ep} (h : ∀ p ∈ fs, 0 ≤ p.1) : ce ((fs.filter fun p => decide (p.1 < sz)).map fun p => (p.1 + 1, p.2 + v)) 0 t = 0 := by
  unfold ce
  rw [List.filter_map, List.length_map, List.filter_filter]
  have : (fs.filter fun a => ((fun p : Ep => decide (p.1 = 0 ∧ p.2 = t)) ∘ fun p : Ep => (p.1 + 1, p.2 + v)) a && decide (a.1 < sz)) = [] := by
    refine List.filter_eq_nil_iff.mpr fun p hp => ?_
    have := h p hp
    simp [Function.comp]
    omega
  rw [this]
  rfl
theorem ce_map {sz v t : Int} {j : Int} (hj : j < sz) (fs : List Ep) : ce ((fs.filter fun p => decide (p.1 < sz)).map fun p => (p.1 + 1, p.2 + v)) (j + 1) t = ce fs j (t - v) := by
  unfold ce
  rw [List.filter_map, List.length_map, List.filter_filter]
  congr 2
  refine List.filter_congr fun p _ => ?_
  rw [Bool.eq_iff_iff]
  simp [Function.comp]
  omega
structure ExOk (sz : Nat) (vs : List Int) (fs : List Ep) : Prop where
  nn : ∀ p ∈ fs, 0 ≤ p.1
  cnt : ∀ (j : Nat) (t : Int), j ≤ sz → ce fs (j : Int) t = cnR vs j t
theorem ExOk.step {sz : Nat} {vs : List Int} {fs : List Ep} (h : ExOk sz vs fs) (v : Int) : ExOk sz (vs ++ [v]) (exs (sz : Int) v fs) where
  nn := fun p hp => by
    rcases List.mem_append.mp hp with z | z
    · exact h.nn p z
    · obtain ⟨q, hq, rfl⟩ := List.mem_map.mp z
      have := h.nn q ((List.mem_filter.mp hq).1)
      show 0 ≤ q.1 + 1
      omega
  cnt := fun j t hj => by
    unfold exs
    rw [ce_app]
    cases j with
    | zero =>
      rw [show ((0 : Nat) : Int) = 0 from rfl, ce_map0 h.nn, cnR_snoc0, Int.add_zero]
      exact h.cnt 0 t hj
    | succ j => rw [show ((j + 1 : Nat) : Int) = (j : Int) + 1 from rfl, ce_map (by omega), cnR_snoc, ← h.cnt j (t - v) (by omega), ← h.cnt (j + 1) t hj]; rfl
theorem ExOk.done {sz : Nat} {vs : List Int} {fs : List Ep} (h : ExOk sz vs fs) (t : Int) : ct ((fs.filter fun p => decide (p.1 = (sz : Int))).map fun p => p.2) t = cnR vs sz t := by
  rw [← h.cnt sz t (Nat.le_refl _)]
  unfold ct ce
  rw [List.filter_map, List.length_map, List.filter_filter]
  congr 2
  refine List.filter_congr fun p _ => ?_
  rw [Bool.eq_iff_iff]
  simp [Function.comp]
  omega
theorem ct_snoc (S : List Int) (s t : Int) : ct (S ++ [s]) t = ct S t + if t = s then 1 else 0 := by
  unfold ct
  rw [List.filter_append, List.length_append]
  by_cases c : s = t
  · rw [List.filter_cons_of_pos (by simpa using c), if_pos c.symm]
    simp
  · rw [List.filter_cons_of_neg (by simpa using c), if_neg (fun z => c z.symm)]
    simp
end Ec
set_option maxRecDepth 10000
namespace Ec
open Gc Ch
noncomputable def turn8 (s g : Nat) (w : Int) : List Int := (List.range s).map fun (i : Nat) => w + (if (i : Int) < (g : Int) then 1 else 0)
noncomputable def stp8 (s g : Nat) (rows : List Int) : List Int := rows.flatMap (turn8 s g)
noncomputable def rows8 (s g : Nat) : Nat → List Int
  | 0 => [0]
  | n + 1 => stp8 s g (rows8 s g n)
noncomputable def cN (s g : Nat) : Nat → Nat → Int
  | 0, 0 => 1
  | 0, _ + 1 => 0
  | n + 1, 0 => ((s : Int) - g) * cN s g n 0
  | n + 1, k + 1 => ((s : Int) - g) * cN s g n (k + 1) + g * cN s g n k
theorem ct_turn (g : Nat) (w t : Int) : ∀ s : Nat, ct (turn8 s g w) t = ((min s g : Nat) : Int) * (if t = w + 1 then 1 else 0) + ((s - min s g : Nat) : Int) * (if t = w then 1 else 0)
  | 0 => by
    have e : min 0 g = 0 := by omega
    rw [e]
    show (0 : Int) = _
    omega
  | s + 1 => by
    have ih := ct_turn g w t s
    unfold turn8 at ih ⊢
    rw [List.range_succ, List.map_append, List.map_cons, List.map_nil, ct_snoc, ih]
    by_cases c : s < g
    · have e1 : min s g = s := by omega
      have e2 : min (s + 1) g = s + 1 := by omega
      rw [e1, e2, if_pos (show (s : Int) < (g : Int) by omega), Nat.sub_self, Nat.sub_self]
      by_cases d : t = w + 1
      · rw [if_pos d]
        omega
      · rw [if_neg d]
        omega
    · have e1 : min s g = g := by omega
      have e2 : min (s + 1) g = g := by omega
      have e3 : ((s + 1 - g : Nat) : Int) = ((s - g : Nat) : Int) + 1 := by omega
      rw [e1, e2, e3, if_neg (show ¬ (s : Int) < (g : Int) by omega), Int.add_zero]
      by_cases d : t = w
      · rw [if_pos d]
        omega
      · rw [if_neg d]
        omega
theorem ct_app8 (a b : List Int) (t : Int) : ct (a ++ b) t = ct a t + ct b t := by
  unfold ct
  rw [List.filter_append, List.length_append]
  omega
theorem ct_stp {s g : Nat} (h : g ≤ s) (t : Int) : ∀ rows : List Int, ct (stp8 s g rows) t = (g : Int) * ct rows (t - 1) + ((s : Int) - g) * ct rows t
  | [] => by
    show (0 : Int) = (g : Int) * 0 + ((s : Int) - g) * 0
    rw [Int.mul_zero, Int.mul_zero]
    rfl
  | w :: rows => by
    have ih := ct_stp h t rows
    show ct (turn8 s g w ++ stp8 s g rows) t = _
    rw [ct_app8, ih, ct_turn, ct_cons, ct_cons, Nat.min_eq_right h]
    have e : ((s - g : Nat) : Int) = (s : Int) - g := by omega
    rw [e, Int.mul_add, Int.mul_add]
    have e1 : (if t = w + 1 then (1 : Int) else 0) = if w = t - 1 then 1 else 0 := by
      by_cases c : t = w + 1
      · rw [if_pos c, if_pos (by omega)]
      · rw [if_neg c, if_neg (by omega)]
    have e2 : (if t = w then (1 : Int) else 0) = if w = t then 1 else 0 := by
      by_cases c : t = w
      · rw [if_pos c, if_pos c.symm]
      · rw [if_neg c, if_neg (fun z => c z.symm)]
    rw [e1, e2]
    omega
theorem mem_stp {s g : Nat} {rows : List Int} {x : Int} (h : x ∈ stp8 s g rows) : ∃ w ∈ rows, w ≤ x ∧ x ≤ w + 1 := by
  obtain ⟨w, hw, hx⟩ := List.mem_flatMap.mp h
  obtain ⟨i, _, rfl⟩ := List.mem_map.mp hx
  refine ⟨w, hw, ?_⟩
  split <;> omega
theorem rows_in (s g : Nat) : ∀ n, ∀ w ∈ rows8 s g n, 0 ≤ w ∧ w ≤ (n : Int)
  | 0, w, h => by rw [List.mem_singleton.mp h]; decide
  | n + 1, w, h => by
    obtain ⟨v, hv, h1, h2⟩ := mem_stp h
    have := rows_in s g n v hv
    omega
theorem stp_len8 (s g : Nat) : ∀ rows : List Int, (stp8 s g rows).length = s * rows.length
  | [] => rfl
  | w :: rows => by
    show (turn8 s g w ++ stp8 s g rows).length = _
    rw [List.length_append, stp_len8 s g rows, List.length_cons, Nat.mul_succ]
    unfold turn8
    rw [List.length_map, List.length_range]
    omega
theorem rows_len (s g : Nat) : ∀ n, (rows8 s g n).length = s ^ n
  | 0 => rfl
  | n + 1 => by
    show (stp8 s g (rows8 s g n)).length = _
    rw [stp_len8, rows_len s g n, Nat.pow_succ, Nat.mul_comm]
theorem ct_none {S : List Int} {t : Int} (h : ∀ x ∈ S, x ≠ t) : ct S t = 0 := by
  unfold ct
  rw [List.filter_eq_nil_iff.mpr fun x hx => by simpa using h x hx]
  rfl
theorem ct_rows {s g : Nat} (h : g ≤ s) : ∀ n k : Nat, ct (rows8 s g n) (k : Int) = cN s g n k
  | 0, 0 => rfl
  | 0, k + 1 => ct_none fun x hx => by rw [List.mem_singleton.mp hx]; omega
  | n + 1, 0 => by
    show ct (stp8 s g (rows8 s g n)) 0 = ((s : Int) - g) * cN s g n 0
    rw [ct_stp h, ct_none (t := (0 : Int) - 1) fun x hx => by have := rows_in s g n x hx; omega, Int.mul_zero, Int.zero_add]
    rw [← ct_rows h n 0]
    rfl
  | n + 1, k + 1 => by
    show ct (stp8 s g (rows8 s g n)) ((k + 1 : Nat) : Int) = ((s : Int) - g) * cN s g n (k + 1) + g * cN s g n k
    rw [ct_stp h, ct_rows h n (k + 1), show ((k + 1 : Nat) : Int) - 1 = (k : Int) by omega, ct_rows h n k]
    omega
theorem wt_cN {s g : Nat} {p : Rat} (hp : p * (s : Rat) = (g : Rat)) : ∀ n k : Nat, wt p n k * (((s : Int) ^ n : Int) : Rat) = ((cN s g n k : Int) : Rat)
  | 0, 0 => by simp [wt, cN]
  | 0, k + 1 => by simp [wt, cN]
  | n + 1, 0 => by
    have ih := wt_cN hp n 0
    have e1 : wt p (n + 1) 0 = (1 - p) * wt p n 0 := rfl
    have e2 : cN s g (n + 1) 0 = ((s : Int) - g) * cN s g n 0 := rfl
    rw [e1, e2, Int.pow_succ]
    push_cast at ih ⊢
    have q : (1 - p) * (s : Rat) = (s : Rat) - (g : Rat) := by grind
    rw [← ih, ← q]
    grind
  | n + 1, k + 1 => by
    have i1 := wt_cN hp n (k + 1)
    have i2 := wt_cN hp n k
    have e1 : wt p (n + 1) (k + 1) = (1 - p) * wt p n (k + 1) + p * wt p n k := rfl
    have e2 : cN s g (n + 1) (k + 1) = ((s : Int) - g) * cN s g n (k + 1) + g * cN s g n k := rfl
    rw [e1, e2, Int.pow_succ]
    push_cast at i1 i2 ⊢
    have q : (1 - p) * (s : Rat) = (s : Rat) - (g : Rat) := by grind
    rw [← i1, ← i2, ← q, ← hp]
    grind
theorem rn_cN {s g : Nat} {p : Rat} (hp : p * (s : Rat) = (g : Rat)) (n i d : Nat) : rn p n i d * (((s : Int) ^ n : Int) : Rat) = ((ism (cN s g n) d - ism (cN s g n) i : Int) : Rat) := by
  have a := ism_cast (f := cN s g n) (g := wt p n) (c := (((s : Int) ^ n : Int) : Rat)) (m := i) fun k _ => wt_cN hp n k
  have b := ism_cast (f := cN s g n) (g := wt p n) (c := (((s : Int) ^ n : Int) : Rat)) (m := d) fun k _ => wt_cN hp n k
  unfold rn cu
  rw [Rat.intCast_sub, ← a, ← b]
  grind
theorem sum_range (f : Nat → Int) (i : Nat) : ∀ m : Nat, ((List.range m).map fun k => f (i + k)).sum = ism f (i + m) - ism f i
  | 0 => by simp
  | m + 1 => by
    rw [List.range_succ, List.map_append, List.sum_append, sum_range f i m, List.map_cons, List.map_nil, List.sum_cons, List.sum_nil, ← Nat.add_assoc, ism]
    omega
theorem whole_cN {s g : Nat} (hs : 0 < s) (hg : g ≤ s) (n : Nat) : ((List.range (n + 1)).map fun k => cN s g n k).sum = (s : Int) ^ n := by
  have h := sum_range (cN s g n) 0 (n + 1)
  simp only [Nat.zero_add] at h
  rw [h]
  have hq : (s : Rat) ≠ 0 := by intro e; have : (s : Int) = 0 := by exact_mod_cast e
                                omega
  have hp : ((g : Rat) / (s : Rat)) * (s : Rat) = (g : Rat) := by grind
  have a := rn_cN hp n 0 (n + 1)
  rw [rn_all] at a
  have : (((s : Int) ^ n : Int) : Rat) = ((ism (cN s g n) (n + 1) - ism (cN s g n) 0 : Int) : Rat) := by rw [← a]; grind
  exact (by exact_mod_cast this : (s : Int) ^ n = ism (cN s g n) (n + 1) - ism (cN s g n) 0).symm
end Ec
set_option maxHeartbeats 4000000
namespace L2
open PySem PySem.Spec PyProof.Rows PySem.W Gc
end L2
namespace L2
open PySem PySem.Spec PyProof.Rows PySem.W Gc
end L2
set_option maxHeartbeats 4000000
namespace L2
open PySem PySem.Spec PyProof.Rows PySem.W Gc
section
variable {prog : Program} {w : World} {A : Around} {E : Value → Shared → Prop} {s : Shared}
end
section
variable {X : Cx} {a b c d : Expr} {ta tb tc td : TE} {pos : Pos}
end
end L2
set_option maxHeartbeats 4000000
namespace L2
open PySem PySem.Spec PyProof.Rows PySem.W Gc
section
variable {X : Cx}
end
end L2
set_option maxHeartbeats 4000000
namespace L2
open PySem PySem.Spec PyProof.Rows PySem.W Gc
section
end
section
variable {prog : Program} {w : World} {A : Around} {E : Value → Shared → Prop} {s : Shared}
end
section
variable {prog : Program} {w : World} {A : Around} {E : Value → Shared → Prop} {s : Shared}
end
end L2
set_option maxHeartbeats 4000000
namespace L2
open PySem PySem.Spec PyProof.Rows
section
variable {M : Model} {A : Around} {E : Value → Shared → Prop} {s : Shared} {B : Heap} {l : List Env} {e L : Addr} {cls a0 : Value}
end
section
variable {X : Cx} {E : XK} {N' : List Str} {scope : Scope} {cl : List (Str × Addr)} {pins0 : List (Addr × Obj)} {σ0 : St} {H3 : Hp} {s3 : Shared} {fp : List Addr} {Q : Value → Shared → Prop} {acc : Value}
end
section
variable {X : Cx} {E : XK} {elt iter tg : Expr} {ifs : List Expr} {xs : List Str} {pos : Pos} {scope : Scope} {cl : List (Str × Addr)} {ts : List (Str × Nat)} {wi : TI} {te : TE} {g : TG} {tt : TT}
end
section
open PySem.W
variable {X : Cx}
end
noncomputable abbrev SeqAt2 (H : Hp) (a : Addr) (xs : List V) : Prop := H a = some (.lst xs) ∨ H a = some (.tup xs)
theorem SeqAt2.keep {H H' : Hp} {a : Addr} {xs : List V} (h : SeqAt2 H a xs) (s : Same H H') : SeqAt2 H' a xs := h.imp (s _ _) (s _ _)
end L2
set_option maxHeartbeats 4000000
namespace L2
open PySem PySem.Spec PyProof.Rows PySem.W Gc
section
variable {prog : Program} {w : World} {A : Around} {E : Value → Shared → Prop} {s : Shared}
end
section
variable {X : Cx}
end
end L2
set_option maxHeartbeats 4000000
namespace L2
open PySem PySem.Spec PyProof.Rows
end L2
set_option maxHeartbeats 4000000
namespace L2
open PySem PySem.Spec PyProof.Rows PySem.W Gc
section
variable {prog : Program} {w : World} {A : Around} {E : Value → Shared → Prop} {s : Shared}
end
noncomputable def SIt (b : Bool) (h : Heap) (it t : Addr) (i : Nat) : Prop := match b with
  | true => h.IsTupleIter it t i
  | false => h.IsListIter it t i
noncomputable def SqH (b : Bool) (h : Heap) (t : Addr) (xs : Array Value) : Prop := match b with
  | true => h.IsTuple t xs
  | false => h.IsList t xs
noncomputable def SqB (b : Bool) (K : PySem.W.Frag) (H : Hp) (a : Addr) (xs : List V) : Prop := match b with
  | true => SqT K H a xs
  | false => SqL K H a xs
theorem SIt.at {b : Bool} {h h' : Heap} {it t : Addr} {i : Nat} (x : SIt b h it t i) (k : ∀ o, h.get? it = some o → h'.get? it = some o) : SIt b h' it t i := by
  cases b with
  | true => exact (show h.IsTupleIter it t i from x).at k
  | false =>
    obtain ⟨o, e1, e2⟩ := (show h.IsListIter it t i from x)
    exact ⟨o, k o e1, e2⟩
theorem SqB.keep {b : Bool} {K : PySem.W.Frag} {H H' : Hp} {a : Addr} {xs : List V} (h : SqB b K H a xs) (s : Same H H') : SqB b K H' a xs := by
  cases b with
  | true => exact s.tup h
  | false => exact s.seq h
section
variable {prog : Program} {w : World} {A : Around} {E : Value → Shared → Prop} {s : Shared}
noncomputable def sItO (b : Bool) (a : Addr) : Obj := match b with
  | true => { cls := .type "tuple_iterator", data := .fields #[.ref a, rawInt 0] }
  | false => { cls := .type "list_iterator", data := .fields #[.ref a, .int 0 0] }
end
end L2
set_option maxHeartbeats 4000000
namespace L2
open PySem PySem.Spec PyProof.Rows Gc
theorem SIt.extBut {b : Bool} {h h' : Heap} {it t : Addr} {i : Nat} {c : Addr} (x : SIt b h it t i) (k : Heap.ExtBut c h h') (ne : it ≠ c) : SIt b h' it t i := x.at fun o q => k it o ne q
theorem SqH.at' {b : Bool} {h h' : Heap} {t : Addr} {xs : Array Value} (x : SqH b h t xs) (k : ∀ o, h.get? t = some o → h'.get? t = some o) : SqH b h' t xs := by
  cases b with
  | true =>
    obtain ⟨o, e1, e2⟩ := (show h.IsTuple t xs from x)
    exact ⟨o, k o e1, e2⟩
  | false =>
    obtain ⟨o, e1, e2⟩ := (show h.IsList t xs from x)
    exact ⟨o, k o e1, e2⟩
theorem SqH.extBut {b : Bool} {h h' : Heap} {t : Addr} {xs : Array Value} {c : Addr} (x : SqH b h t xs) (k : Heap.ExtBut c h h') (ne : t ≠ c) : SqH b h' t xs := x.at' fun o q => k t o ne q
theorem SqH.push {b : Bool} {h : Heap} {t : Addr} {xs : Array Value} (x : SqH b h t xs) (o : Obj) : SqH b (h.push o) t xs := x.at' fun _ q => Heap.get?_push_of_some _ q
theorem SqH.lt {b : Bool} {h : Heap} {t : Addr} {xs : Array Value} (x : SqH b h t xs) : t < h.objs.size := by
  cases b with
  | true =>
    obtain ⟨o, e1, e2⟩ := (show h.IsTuple t xs from x)
    exact Heap.lt_size e1
  | false =>
    obtain ⟨o, e1, e2⟩ := (show h.IsList t xs from x)
    exact Heap.lt_size e1
theorem SIt.new {b : Bool} {h : Heap} {it a : Addr} (e : h.get? it = some (sItO b a)) : SIt b h it a 0 := by
  cases b with
  | true => exact ⟨_, e, rfl, rfl⟩
  | false => exact ⟨_, e, rfl, rfl⟩
section
variable {prog : Program} {w : World} {A : Around} {E : Value → Shared → Prop} {s : Shared}
end
end L2
set_option maxHeartbeats 4000000
namespace L2
open PySem PySem.Spec PyProof.Rows Gc
end L2
set_option maxHeartbeats 4000000
namespace L2
open PySem PySem.Spec PyProof.Rows Gc HT
section
variable {prog : Program} {w : World} {A : Around} {E : Value → Shared → Prop} {s : Shared}
end
section
variable {X : Cx}
end
end L2
set_option maxHeartbeats 4000000
namespace L2
open PySem PySem.Spec PyProof.Rows
section
variable {κ : Type} [DecidableEq κ]
noncomputable def valV (kvs : List (κ × V)) (k : κ) : Option V := (kvs.find? fun kv => decide (kv.1 = k)).map (·.2)
noncomputable def putK (kvs : List (κ × V)) (k : κ) (v : V) : List (κ × V) :=
  if (kvs.any fun kv => decide (kv.1 = k)) = true then kvs.map (fun kv => if kv.1 = k then (kv.1, v) else kv) else kvs ++ [(k, v)]
noncomputable def dropK (kvs : List (κ × V)) (k : κ) : List (κ × V) := kvs.filter fun kv => decide (kv.1 ≠ k)
theorem valV_pos {p : κ × V} {r : List (κ × V)} {k : κ} (e : p.1 = k) : valV (p :: r) k = some p.2 := by simp [valV, List.find?_cons, e]
theorem valV_neg {p : κ × V} {r : List (κ × V)} {k : κ} (e : ¬ p.1 = k) : valV (p :: r) k = valV r k := by simp [valV, List.find?_cons, e]
theorem RelO.getD {o : Option V} {u : Option Value} {d : V} {d' : Value} (r : RelO o u) (rd : RelV d d') : RelV (o.getD d) (u.getD d') := by
  cases o with
  | none => cases u with
    | none => exact rd
    | some _ => exact (show False from r).elim
  | some _ => cases u with
    | none => exact (show False from r).elim
    | some _ => exact r
theorem KV.val {kvs : List (κ × V)} {vs : List (κ × Value)} (r : KV kvs vs) (k : κ) : RelO (valV kvs k) (valueAt vs k) := by
  unfold KV at r
  induction r with
  | nil => exact True.intro
  | @cons p q ps qs h t ih =>
    obtain ⟨h1, h2⟩ := h
    by_cases e : p.1 = k
    · have e' : q.1 = k := h1.symm.trans e
      have b : valueAt (q :: qs) k = some q.2 := by simp [valueAt, List.find?_cons, e']
      rw [valV_pos e, b]; exact h2
    · have e' : ¬ q.1 = k := fun z => e (h1.trans z)
      have b : valueAt (q :: qs) k = valueAt qs k := by simp [valueAt, List.find?_cons, e']
      rw [valV_neg e, b]; exact ih
theorem KV.any {kvs : List (κ × V)} {vs : List (κ × Value)} (r : KV kvs vs) (k : κ) : (kvs.any fun kv => decide (kv.1 = k)) = vs.any fun kv => decide (kv.1 = k) := by
  unfold KV at r
  induction r with
  | nil => rfl
  | cons h t ih => rw [List.any_cons, List.any_cons, ih, h.1]
theorem KV.drop {kvs : List (κ × V)} {vs : List (κ × Value)} (r : KV kvs vs) (k : κ) : KV (dropK kvs k) (without vs k) := by
  unfold KV at r ⊢
  unfold dropK without
  induction r with
  | nil => exact .nil
  | @cons p q ps qs h t ih =>
    obtain ⟨h1, h2⟩ := h
    rw [List.filter_cons, List.filter_cons]
    by_cases e : p.1 = k
    · have a : ¬ decide (p.1 ≠ k) = true := by simp [e]
      have b : ¬ decide (q.1 ≠ k) = true := by simp [h1.symm.trans e]
      rw [if_neg a, if_neg b]; exact ih
    · have e' : ¬ q.1 = k := fun z => e (h1.trans z)
      have a : decide (p.1 ≠ k) = true := by simp [e]
      have b : decide (q.1 ≠ k) = true := by simp [e']
      rw [if_pos a, if_pos b]; exact .cons ⟨h1, h2⟩ ih
theorem KV.length {kvs : List (κ × V)} {vs : List (κ × Value)} (r : KV kvs vs) : kvs.length = vs.length := Paired.length r
end
noncomputable abbrev KT (H : Hp) : List (List Key × V) → List (List Key × Addr × Value) → Prop := Paired fun p q => p.1 = q.1 ∧ H q.2.1 = some (.tup (p.1.map kV)) ∧ RelV p.2 q.2.2
theorem KT.val {H : Hp} {kvs : List (List Key × V)} {xs : List (List Key × Addr × Value)} (r : KT H kvs xs) (k : List Key) : RelO (valV kvs k) ((atKey xs k).map (·.2)) := by
  induction r with
  | nil => exact True.intro
  | @cons p q ps qs h t ih =>
    obtain ⟨h1, _, h2⟩ := h
    by_cases e : p.1 = k
    · have e' : q.1 = k := h1.symm.trans e
      have b : atKey (q :: qs) k = some q.2 := by simp [atKey, List.find?_cons, e']
      rw [valV_pos e, b]; exact h2
    · have e' : ¬ q.1 = k := fun z => e (h1.trans z)
      have b : atKey (q :: qs) k = atKey qs k := by simp [atKey, List.find?_cons, e']
      rw [valV_neg e, b]; exact ih
theorem KT.keeps {H H' : Hp} {kvs : List (List Key × V)} {xs : List (List Key × Addr × Value)} (r : KT H kvs xs) (ht : ∀ b ys, H b = some (.tup ys) → H' b = some (.tup ys)) : KT H' kvs xs :=
  Paired.mapP r fun _ _ z => ⟨z.1, ht _ _ z.2.1, z.2.2⟩
section
variable {P : Program} {w : World} {H : Hp} {h : Heap} {a : Addr}
end
noncomputable def DGet (H : Hp) (a : Addr) (y : V) (r : Option V) : Prop :=
  (∃ kvs k, Rd H a (.dK kvs) ∧ y = kV k ∧ r = valV kvs k) ∨ ∃ kvs k b, Rd H a (.dT kvs) ∧ y = .ref b ∧ H b = some (.tup (k.map kV)) ∧ r = valV kvs k
noncomputable def DPut (H : Hp) (a : Addr) (y v : V) (H' : Hp) : Prop :=
  (∃ kvs k, H a = some (.dK kvs) ∧ y = kV k ∧ kvs.length < sizeLine ∧ H' = upd H a (.dK (putK kvs k v))) ∨
  ∃ kvs k b, H a = some (.dT kvs) ∧ y = .ref b ∧ H b = some (.tup (k.map kV)) ∧ kvs.length < sizeLine ∧ H' = upd H a (.dT (putK kvs k v))
theorem DGet.k {H : Hp} {a : Addr} {kvs : List (Key × V)} {k : Key} (e : H a = some (.dK kvs)) : DGet H a (kV k) (valV kvs k) := .inl ⟨kvs, k, .inl e, rfl, rfl⟩
theorem DGet.t {H : Hp} {a b : Addr} {kvs : List (List Key × V)} {k : List Key} (e : H a = some (.dT kvs)) (eb : H b = some (.tup (k.map kV))) : DGet H a (.ref b) (valV kvs k) := .inr ⟨kvs, k, b, .inl e, rfl, eb, rfl⟩
theorem DPut.k {H : Hp} {a : Addr} {kvs : List (Key × V)} {k : Key} {v : V} (e : H a = some (.dK kvs)) (hl : kvs.length < sizeLine) : DPut H a (kV k) v (upd H a (.dK (putK kvs k v))) := .inl ⟨kvs, k, e, rfl, hl, rfl⟩
theorem DPut.t {H : Hp} {a b : Addr} {kvs : List (List Key × V)} {k : List Key} {v : V} (e : H a = some (.dT kvs)) (eb : H b = some (.tup (k.map kV))) (hl : kvs.length < sizeLine) :
    DPut H a (.ref b) v (upd H a (.dT (putK kvs k v))) := .inr ⟨kvs, k, b, e, rfl, eb, hl, rfl⟩
section
variable {X : Cx} {pins : List (Addr × Obj)} {σ : St} {H : Hp} {s : Shared} {a : Addr} {y v : V} {u r : Value} {o : Option V} {A : Around} {E : Value → Shared → Prop}
end
section
variable {X : Cx} {pins : List (Addr × Obj)} {σ : St} {H : Hp} {s : Shared} {a : Addr} {kvs : List (Key × V)} {k : Key} {u : Value} {A : Around} {E : Value → Shared → Prop}
end
section
variable {X : Cx} {o i e value : Expr} {pos pos' tpos : Pos} {td ty tv : TE}
end
section
variable {X : Cx} {pos : Pos}
end
structure M1 (X : Cx) (o : Expr) (m : Str) (apos : Pos) (e : Expr) (cpos : Pos) : Prop where
  base : attributeBase o m X.env (eval o X.env) = eval o X.env
  few : ((backTo cpos (starEach [e] X.env)).all (fun x => !x.1) && (backToKw cpos (keywordEach [] X.env)).all (fun x => x.1.isSome)
    && decide (([e] : List Expr).length + ([] : List Keyword).length + (if ([] : List Keyword).isEmpty then 0 else 1) < 30)) = true
  line : (apos.endLine == cpos.line) = true
  trees : backTo cpos (starEach [e] X.env) = [(false, eval e X.env)]
structure M2 (X : Cx) (o : Expr) (m : Str) (apos : Pos) (e f : Expr) (cpos : Pos) : Prop where
  base : attributeBase o m X.env (eval o X.env) = eval o X.env
  few : ((backTo cpos (starEach [e, f] X.env)).all (fun x => !x.1) && (backToKw cpos (keywordEach [] X.env)).all (fun x => x.1.isSome)
    && decide (([e, f] : List Expr).length + ([] : List Keyword).length + (if ([] : List Keyword).isEmpty then 0 else 1) < 30)) = true
  line : (apos.endLine == cpos.line) = true
  trees : backTo cpos (starEach [e, f] X.env) = [(false, eval e X.env), (false, eval f X.env)]
section
variable {X : Cx} {pins : List (Addr × Obj)} {σ : St} {H : Hp} {s : Shared} {a : Addr} {y d : V} {u r : Value} {o : Option V} {A : Around} {E : Value → Shared → Prop}
end
section
variable {X : Cx} {o e f : Expr} {apos cpos : Pos} {td ty tx : TE}
end
section
variable {X : Cx} {pins : List (Addr × Obj)} {σ : St} {H : Hp} {s : Shared} {a : Addr} {kvs : List (Key × V)} {A : Around} {E : Value → Shared → Prop}
end
section
variable {X : Cx} {pins : List (Addr × Obj)} {σ : St} {H : Hp} {s : Shared} {a : Addr} {y : V} {u : Value} {A : Around} {E : Value → Shared → Prop}
end
end L2
set_option maxHeartbeats 4000000
namespace L2
open PySem PySem.Spec PyProof.Rows Gc
end L2
set_option maxHeartbeats 4000000
namespace L2
open PySem PySem.Spec PyProof.Rows Gc
end L2
set_option maxHeartbeats 4000000
namespace L2
open PySem PySem.Spec PyProof.Rows Gc
end L2
set_option maxHeartbeats 4000000
namespace L2
open PySem PySem.Spec PyProof.Rows Gc PySem.W
theorem KV.at : ∀ {kvs : List (Key × V)} {vs : List (Key × Value)} {i : Nat} {kv : Key × V}, KV kvs vs → kvs[i]? = some kv → ∃ x, vs[i]? = some (kv.1, x) ∧ RelV kv.2 x
  | _, _, 0, kv, .cons (a := p) (b := q) r t, h => by
    have h' : p = kv := by simpa using h
    subst h'
    exact ⟨q.2, by simp [r.1], r.2⟩
  | _, _, i + 1, kv, .cons r t, h => by
    have h' := h
    rw [List.getElem?_cons_succ] at h'
    obtain ⟨x, e1, e2⟩ := KV.at t h'
    exact ⟨x, by rw [List.getElem?_cons_succ]; exact e1, e2⟩
  | _, _, 0, kv, .nil, h => by simp at h
  | _, _, _ + 1, kv, .nil, h => by simp at h
structure M0 (X : Cx) (o : Expr) (m : Str) (apos : Pos) (cpos : Pos) : Prop where
  base : attributeBase o m X.env (eval o X.env) = eval o X.env
  few : ((backTo cpos (starEach [] X.env)).all (fun x => !x.1) && (backToKw cpos (keywordEach [] X.env)).all (fun x => x.1.isSome)
    && decide (([] : List Expr).length + ([] : List Keyword).length + (if ([] : List Keyword).isEmpty then 0 else 1) < 30)) = true
  line : (apos.endLine == cpos.line) = true
  trees : backTo cpos (starEach [] X.env) = []
end L2
set_option maxHeartbeats 4000000
namespace L2
namespace Ei
open PySem PySem.Spec PyProof.Rows Gc
noncomputable def lookI (ds : List (Int × Int)) (k : Int) : Option Int := (ds.find? fun p => decide (p.1 = k)).map (·.2)
noncomputable def valI (ds : List (Int × Int)) (k : Int) : Int := (lookI ds k).getD 0
noncomputable def NdI (ds : List (Int × Int)) : Prop := (ds.map (·.1)).Nodup
theorem lookI_cons (p : Int × Int) (ds : List (Int × Int)) (k : Int) : lookI (p :: ds) k = if p.1 = k then some p.2 else lookI ds k := by
  unfold lookI
  by_cases c : p.1 = k
  · rw [List.find?_cons_of_pos (by simpa using c), if_pos c]
    rfl
  · rw [List.find?_cons_of_neg (by simpa using c), if_neg c]
theorem lookI_none {ds : List (Int × Int)} {k : Int} : lookI ds k = none ↔ k ∉ ds.map (·.1) := by
  induction ds with
  | nil => simp [lookI]
  | cons p ds ih =>
    rw [lookI_cons, List.map_cons, List.mem_cons]
    by_cases c : p.1 = k
    · rw [if_pos c]
      simp [c]
    · rw [if_neg c, ih]
      constructor
      · intro h z
        rcases z with z | z
        · exact c z.symm
        · exact h z
      · intro h z
        exact h (.inr z)
theorem memI_look {ds : List (Int × Int)} (h : NdI ds) {p : Int × Int} (hp : p ∈ ds) : lookI ds p.1 = some p.2 := by
  induction ds with
  | nil => cases hp
  | cons q ds ih =>
    unfold NdI at h
    rw [List.map_cons, List.nodup_cons] at h
    rw [lookI_cons]
    rcases List.mem_cons.mp hp with y | y
    · subst y
      rw [if_pos rfl]
    · rw [if_neg (fun z => h.1 (by rw [z]; exact List.mem_map_of_mem y))]
      exact ih h.2 y
structure DOk (ds : List (Int × Int)) (f : Int → Int) : Prop where
  nd : NdI ds
  val : ∀ t, valI ds t = f t
  pos : ∀ p ∈ ds, 1 ≤ p.2
theorem DOk.mem {ds : List (Int × Int)} {f : Int → Int} (h : DOk ds f) {t : Int} : t ∈ ds.map (·.1) ↔ f t ≠ 0 := by
  rw [← h.val]
  constructor
  · intro m
    obtain ⟨p, hp, rfl⟩ := List.mem_map.mp m
    have := h.pos p hp
    unfold valI
    rw [memI_look h.nd hp]
    show p.2 ≠ 0
    omega
  · intro m
    by_cases c : t ∈ ds.map (·.1)
    · exact c
    · exfalso
      apply m
      unfold valI
      rw [lookI_none.mpr c]
      rfl
theorem DOk.congr {ds : List (Int × Int)} {f g : Int → Int} (h : DOk ds f) (e : ∀ t, f t = g t) : DOk ds g := ⟨h.nd, fun t => (h.val t).trans (e t), h.pos⟩
noncomputable def acc (fs : List (Int × Int)) (v t : Int) : Int := (fs.map fun p => if t = p.1 + v then p.2 else 0).sum
end Ei
end L2
set_option maxHeartbeats 4000000
namespace L2
open PySem PySem.Spec PyProof.Rows Gc
section
variable {X : Cx} {N' : List Str} {scope : Scope} {cl : List (Str × Addr)} {C : Addr} {s3 : Shared} {H3 : Hp} {fp : List Addr}
end
end L2
set_option maxHeartbeats 4000000
namespace Sg
open PySem PyProof.Rows
structure SB (a₀ : Array Keyed) (st : SortSt) : Prop where
  perm : (arrOf st).Perm a₀
  kind : kindOf st = oneType'
  failed : failedOf st = none
theorem SB.size {a₀ : Array Keyed} {st : SortSt} (h : SB a₀ st) : (arrOf st).size = a₀.size := h.perm.size_eq
theorem SB.at {a₀ : Array Keyed} {st : SortSt} (h : SB a₀ st) (h0 : IntKeys a₀) {i : Nat} (hi : i < a₀.size) : ∃ t q, (arrOf st)[i]? = some (.int (K (arrOf st) i) t, q) := by
  have hi' : i < (arrOf st).size := by rw [h.size]; exact hi
  have hm : (arrOf st)[i] ∈ a₀.toList := (Array.perm_iff_toList_perm.mp h.perm).mem_iff.mp (by simp)
  obtain ⟨n, t, hn⟩ := h0 _ hm
  refine ⟨t, (arrOf st)[i].2, ?_⟩
  have e : (arrOf st)[i]? = some (arrOf st)[i] := getElem?_pos _ i hi'
  have e2 : (arrOf st)[i] = (.int n t, (arrOf st)[i].2) := Prod.ext hn rfl
  unfold K
  rw [e, e2]
  rfl
noncomputable def SI (xs : Array Keyed) (lo n : Nat) : Prop := ∀ i j, i ≤ j → j < n → K xs (lo + i) ≤ K xs (lo + j)
noncomputable def Bef (lo : Nat) (xs ys : Array Keyed) : Prop := ∀ k, k < lo → xs[k]? = ys[k]?
theorem Bef.refl {lo : Nat} {xs : Array Keyed} : Bef lo xs xs := fun _ _ => rfl
theorem Bef.trans {lo : Nat} {xs ys zs : Array Keyed} (h : Bef lo xs ys) (k : Bef lo ys zs) : Bef lo xs zs := fun i hi => (h i hi).trans (k i hi)
section
variable {prog : Program} {w : World} {A : Around} {E : Value → Shared → Prop} {s : Shared} {a₀ : Array Keyed}
noncomputable def Cr (a₀ : Array Keyed) (st0 : SortSt) (lo nrem : Nat) (m : Nat) (st' : SortSt) : Prop := SB a₀ st' ∧ 1 ≤ m ∧ m ≤ nrem ∧ SI (arrOf st') lo m ∧ Bef lo (arrOf st') (arrOf st0) ∧ pendingOf st' = pendingOf st0 ∧ gallopOf st' = gallopOf st0
theorem Cr.from {st0 st1 : SortSt} {lo nrem m : Nat} {st' : SortSt} (h : Cr a₀ st1 lo nrem m st') (b : Bef lo (arrOf st1) (arrOf st0)) (p : pendingOf st1 = pendingOf st0) (g : gallopOf st1 = gallopOf st0) : Cr a₀ st0 lo nrem m st' :=
  ⟨h.1, h.2.1, h.2.2.1, h.2.2.2.1, h.2.2.2.2.1.trans b, h.2.2.2.2.2.1.trans p, h.2.2.2.2.2.2.trans g⟩
end
end Sg
set_option maxHeartbeats 4000000
namespace Sg
open PySem PyProof.Rows
noncomputable def kk (x : Keyed) : Int := numOf x.1
section
variable {prog : Program} {w : World} {A : Around} {E : Value → Shared → Prop} {s : Shared}
end
end Sg
set_option maxHeartbeats 4000000
namespace Sg
open PySem PyProof.Rows
section
variable {prog : Program} {w : World} {A : Around} {E : Value → Shared → Prop} {s : Shared}
end
end Sg
set_option maxHeartbeats 4000000
namespace Sg
open PySem PyProof.Rows
noncomputable abbrev Ls (l : List Keyed) : Prop := l.Pairwise fun x y => kk x ≤ kk y
structure Mi (la lb : List Keyed) (out : List Keyed) (ia ib : Nat) : Prop where
  perm : out.Perm (la.take ia ++ lb.take ib)
  srt : Ls out
  le : ∀ x ∈ out, ∀ y, y ∈ la.drop ia ∨ y ∈ lb.drop ib → kk x ≤ kk y
theorem ls_cut {l : List Keyed} (h : Ls l) (i k : Nat) : ∀ x ∈ (l.drop i).take k, ∀ y ∈ l.drop (i + k), kk x ≤ kk y := by
  have e : l.drop i = (l.drop i).take k ++ l.drop (i + k) := by rw [← List.drop_drop, List.take_append_drop]
  have h2 : Ls (l.drop i) := h.sublist (List.drop_sublist _ _)
  rw [e] at h2
  exact (List.pairwise_append.mp h2).2.2
theorem mem_drop_le {l : List Keyed} {i k : Nat} {x : Keyed} (h : x ∈ l.drop (i + k)) : x ∈ l.drop i := by
  rw [← List.drop_drop] at h
  exact List.mem_of_mem_drop h
theorem Mi.chA {la lb out : List Keyed} {ia ib : Nat} (h : Mi la lb out ia ib) (sa : Ls la) (k : Nat) (hk : ∀ x ∈ (la.drop ia).take k, ∀ y ∈ lb.drop ib, kk x ≤ kk y) : Mi la lb (out ++ (la.drop ia).take k) (ia + k) ib where
  perm := by
    rw [List.take_add]
    refine (h.perm.append_right _).trans ?_
    rw [List.append_assoc, List.append_assoc]
    exact List.perm_append_comm.append_left _
  srt := List.pairwise_append.mpr ⟨h.srt, (sa.sublist (List.drop_sublist _ _)).sublist (List.take_sublist _ _), fun x hx y hy => h.le x hx y (.inl (List.mem_of_mem_take hy))⟩
  le := fun x hx y hy => by
    rcases List.mem_append.mp hx with z | z
    · rcases hy with w | w
      · exact h.le x z y (.inl (mem_drop_le w))
      · exact h.le x z y (.inr w)
    · rcases hy with w | w
      · exact ls_cut sa ia k x z y w
      · exact hk x z y w
theorem Mi.chB {la lb out : List Keyed} {ia ib : Nat} (h : Mi la lb out ia ib) (sb : Ls lb) (k : Nat) (hk : ∀ x ∈ (lb.drop ib).take k, ∀ y ∈ la.drop ia, kk x ≤ kk y) : Mi la lb (out ++ (lb.drop ib).take k) ia (ib + k) where
  perm := by
    rw [List.take_add]
    refine (h.perm.append_right _).trans ?_
    rw [List.append_assoc]
  srt := List.pairwise_append.mpr ⟨h.srt, (sb.sublist (List.drop_sublist _ _)).sublist (List.take_sublist _ _), fun x hx y hy => h.le x hx y (.inr (List.mem_of_mem_take hy))⟩
  le := fun x hx y hy => by
    rcases List.mem_append.mp hx with z | z
    · rcases hy with w | w
      · exact h.le x z y (.inl w)
      · exact h.le x z y (.inr (mem_drop_le w))
    · rcases hy with w | w
      · exact hk x z y w
      · exact ls_cut sb ib k x z y w
noncomputable def Mo (la lb out : List Keyed) : Prop := out.Perm (la ++ lb) ∧ Ls out
theorem Mi.last {la lb out : List Keyed} {ia ib : Nat} (h : Mi la lb out ia ib) (sa : Ls la) (sb : Ls lb) (hl : ∀ x ∈ lb.drop ib, ∀ y ∈ la.drop ia, kk x ≤ kk y) : Mo la lb (out ++ lb.drop ib ++ la.drop ia) := by
  have m := h.chB sb (lb.length - ib) (fun x hx y hy => hl x (List.mem_of_mem_take hx) y hy)
  rw [List.take_of_length_le (by simp)] at m
  have m2 := m.chA sa (la.length - ia) (by rw [List.drop_eq_nil_of_le (show lb.length ≤ ib + (lb.length - ib) by omega)]; intro x _ y hy; cases hy)
  rw [List.take_of_length_le (by simp)] at m2
  refine ⟨?_, m2.srt⟩
  have p := m2.perm
  rw [List.take_of_length_le (show la.length ≤ ia + (la.length - ia) by omega), List.take_of_length_le (show lb.length ≤ ib + (lb.length - ib) by omega)] at p
  exact p
structure Mp (a b : Array Keyed) : Prop where
  ka : IntKeys a
  kb : IntKeys b
  sa : SI a 0 a.size
  sb : SI b 0 b.size
  a1 : 1 ≤ a.size
  b1 : 1 ≤ b.size
  first : K b 0 ≤ K a 0
  last : ∀ i, i < b.size → K b i ≤ K a (a.size - 1)
theorem SI.le {a : Array Keyed} (h : SI a 0 a.size) {i j : Nat} (hij : i ≤ j) (hj : j < a.size) : K a i ≤ K a j := by
  have := h i j hij hj
  rwa [Nat.zero_add, Nat.zero_add] at this
theorem SI.sub {a : Array Keyed} (h : SI a 0 a.size) (i n : Nat) (hn : i + n ≤ a.size) : SI a i n := fun x y hxy hy => h.le (by omega) (by omega)
structure Sm (st st' : SortSt) : Prop where
  kind : kindOf st' = kindOf st
  arr : arrOf st' = arrOf st
  pend : pendingOf st' = pendingOf st
  failed : failedOf st' = failedOf st
theorem Sm.refl {st : SortSt} : Sm st st := ⟨rfl, rfl, rfl, rfl⟩
section
variable {prog : Program} {w : World} {A : Around} {E : Value → Shared → Prop} {s : Shared}
end
noncomputable abbrev St2 := Option (Array Keyed) × Array Keyed × Nat × Nat × Nat × Nat × Nat
noncomputable def Jr (a b : Array Keyed) (st : SortSt) (n0 : Nat) (r : ForInStep St2) (st' : SortSt) : Prop := match r with
  | .done c' => Sm st st' ∧ ((∃ r out ia2 ib2 mg2 ac bc, c' = (some r, out, ia2, ib2, mg2, ac, bc) ∧ Mo a.toList b.toList r.toList) ∨ ∃ (out : Array Keyed) (ia2 ib2 mg2 ac bc : Nat), c' = (none, out, ia2, ib2, mg2, ac, bc) ∧ Mi a.toList b.toList out.toList ia2 ib2 ∧ ia2 + 1 < a.size ∧ ib2 < b.size ∧ n0 ≤ ia2 + ib2)
  | .yield c' => Sm st st' ∧ ∃ (out : Array Keyed) (ia2 ib2 mg2 ac bc : Nat), c' = (none, out, ia2, ib2, mg2, ac, bc) ∧ Mi a.toList b.toList out.toList ia2 ib2 ∧ ia2 + 1 < a.size ∧ ib2 < b.size ∧ n0 ≤ ia2 + ib2
section
variable {prog : Program} {w : World} {A : Around} {E : Value → Shared → Prop} {s : Shared}
theorem Jr.le {a b : Array Keyed} {st : SortSt} {n0 n1 : Nat} (h : n1 ≤ n0) {r : ForInStep St2} {st' : SortSt} (k : Jr a b st n0 r st') : Jr a b st n1 r st' := by
  cases r with
  | done c =>
    obtain ⟨s1, k | ⟨out, i1, i2, g, ac, bc, e, m, p1, p2, p3⟩⟩ := k
    · exact ⟨s1, .inl k⟩
    · exact ⟨s1, .inr ⟨out, i1, i2, g, ac, bc, e, m, p1, p2, by omega⟩⟩
  | yield c =>
    obtain ⟨s1, out, i1, i2, g, ac, bc, e, m, p1, p2, p3⟩ := k
    exact ⟨s1, out, i1, i2, g, ac, bc, e, m, p1, p2, by omega⟩
end
section
variable {prog : Program} {w : World} {A : Around} {E : Value → Shared → Prop} {s : Shared}
end
end Sg
set_option maxHeartbeats 4000000
namespace Sg
open PySem PyProof.Rows
structure Hi (la lb : List Keyed) (r : List Keyed) (na nb : Nat) : Prop where
  perm : r.Perm (la.drop na ++ lb.drop nb)
  srt : Ls r
  le : ∀ x ∈ r, ∀ y, y ∈ la.take na ∨ y ∈ lb.take nb → kk y ≤ kk x
theorem drop_split {l : List Keyed} {i j : Nat} (h : i ≤ j) : l.drop i = (l.drop i).take (j - i) ++ l.drop j := by
  have e : l.drop j = (l.drop i).drop (j - i) := by rw [List.drop_drop, show i + (j - i) = j by omega]
  rw [e, List.take_append_drop]
theorem take_lt {l : List Keyed} {i j : Nat} (h : i ≤ j) {x : Keyed} (hx : x ∈ l.take i) : x ∈ l.take j := by
  rw [← Nat.min_eq_left h, ← List.take_take] at hx
  exact List.mem_of_mem_take hx
theorem mid_take {l : List Keyed} {i j : Nat} (h : i ≤ j) {x : Keyed} (hx : x ∈ (l.drop i).take (j - i)) : x ∈ l.take j := by
  have e : (l.drop i).take (j - i) = (l.take j).drop i := by rw [List.drop_take]
  rw [e] at hx
  exact List.mem_of_mem_drop hx
theorem ls_mid {l : List Keyed} (h : Ls l) {i : Nat} : ∀ x ∈ l.drop i, ∀ y ∈ l.take i, kk y ≤ kk x := by
  rw [← List.take_append_drop i l] at h
  intro x hx y hy
  exact (List.pairwise_append.mp h).2.2 y hy x hx
theorem Hi.chA {la lb r : List Keyed} {na nb : Nat} (h : Hi la lb r na nb) (sa : Ls la) {i : Nat} (hi : i ≤ na) (hk : ∀ x ∈ (la.drop i).take (na - i), ∀ y ∈ lb.take nb, kk y ≤ kk x) : Hi la lb ((la.drop i).take (na - i) ++ r) i nb where
  perm := by
    have e := drop_split (l := la) hi
    generalize (la.drop i).take (na - i) = chk at *
    rw [e, List.append_assoc]
    exact h.perm.append_left _
  srt := List.pairwise_append.mpr ⟨(sa.sublist (List.drop_sublist _ _)).sublist (List.take_sublist _ _), h.srt, fun x hx y hy => h.le y hy x (.inl (mid_take hi hx))⟩
  le := fun x hx y hy => by
    rcases List.mem_append.mp hx with z | z
    · rcases hy with w | w
      · exact ls_mid sa x (List.mem_of_mem_take z) y w
      · exact hk x z y w
    · rcases hy with w | w
      · exact h.le x z y (.inl (take_lt hi w))
      · exact h.le x z y (.inr w)
theorem Hi.chB {la lb r : List Keyed} {na nb : Nat} (h : Hi la lb r na nb) (sb : Ls lb) {i : Nat} (hi : i ≤ nb) (hk : ∀ x ∈ (lb.drop i).take (nb - i), ∀ y ∈ la.take na, kk y ≤ kk x) : Hi la lb ((lb.drop i).take (nb - i) ++ r) na i where
  perm := by
    have e := drop_split (l := lb) hi
    generalize (lb.drop i).take (nb - i) = chk at *
    refine (h.perm.append_left _).trans ?_
    rw [e, ← List.append_assoc, ← List.append_assoc]
    exact List.perm_append_comm.append_right _
  srt := List.pairwise_append.mpr ⟨(sb.sublist (List.drop_sublist _ _)).sublist (List.take_sublist _ _), h.srt, fun x hx y hy => h.le y hy x (.inr (mid_take hi hx))⟩
  le := fun x hx y hy => by
    rcases List.mem_append.mp hx with z | z
    · rcases hy with w | w
      · exact hk x z y w
      · exact ls_mid sb x (List.mem_of_mem_take z) y w
    · rcases hy with w | w
      · exact h.le x z y (.inl w)
      · exact h.le x z y (.inr (take_lt hi w))
noncomputable abbrev St3 := Option (Array Keyed) × Nat × Nat × Array Keyed × Nat × Nat × Nat
noncomputable def kB (a b : Array Keyed) (mg ac i bc : Nat) (nb : Nat) (out : Array Keyed) : StateT SortSt Sem (ForInStep St3) := do
  let na := i - 1
  let x ← elem' a na
  let out := out.push x
  if (na == 0) = true then pure (ForInStep.done (some (a.extract 0 na ++ b.extract 0 nb ++ out.reverse), na, nb, out, mg, ac, bc))
  else if (decide (ac < 7) && decide (bc < 7)) = true then pure (ForInStep.done (none, na, nb, out, mg, ac, bc)) else pure (ForInStep.yield (none, na, nb, out, mg, ac, bc))
noncomputable def Kr (a b : Array Keyed) (st : SortSt) (n0 : Nat) (r : ForInStep St3) (st' : SortSt) : Prop := match r with
  | .done c' => Sm st st' ∧ ((∃ r na nb out mg2 ac bc, c' = (some r, na, nb, out, mg2, ac, bc) ∧ Mo a.toList b.toList r.toList) ∨ ∃ (na nb : Nat) (out : Array Keyed) (mg2 ac bc : Nat), c' = (none, na, nb, out, mg2, ac, bc) ∧ Hi a.toList b.toList out.toList.reverse na nb ∧ 1 ≤ na ∧ 2 ≤ nb ∧ na ≤ a.size ∧ nb ≤ b.size ∧ na + nb ≤ n0)
  | .yield c' => Sm st st' ∧ ∃ (na nb : Nat) (out : Array Keyed) (mg2 ac bc : Nat), c' = (none, na, nb, out, mg2, ac, bc) ∧ Hi a.toList b.toList out.toList.reverse na nb ∧ 1 ≤ na ∧ 2 ≤ nb ∧ na ≤ a.size ∧ nb ≤ b.size ∧ na + nb ≤ n0
theorem Kr.le {a b : Array Keyed} {st : SortSt} {n0 n1 : Nat} (h : n0 ≤ n1) {r : ForInStep St3} {st' : SortSt} (k : Kr a b st n0 r st') : Kr a b st n1 r st' := by
  cases r with
  | done c =>
    obtain ⟨s1, k | ⟨na, nb, out, g, ac, bc, e, m, p1, p2, p3, p4, p5⟩⟩ := k
    · exact ⟨s1, .inl k⟩
    · exact ⟨s1, .inr ⟨na, nb, out, g, ac, bc, e, m, p1, p2, p3, p4, by omega⟩⟩
  | yield c =>
    obtain ⟨s1, na, nb, out, g, ac, bc, e, m, p1, p2, p3, p4, p5⟩ := k
    exact ⟨s1, na, nb, out, g, ac, bc, e, m, p1, p2, p3, p4, by omega⟩
structure Hq (a b : Array Keyed) : Prop where
  pA : ∀ {out : Array Keyed} {na nb : Nat} (h : na - 1 < a.size), 1 ≤ na → Hi a.toList b.toList out.toList.reverse na nb → (∀ j, j < nb → j < b.size → K b j ≤ K a (na - 1)) → Hi a.toList b.toList (out.push a[na - 1]).toList.reverse (na - 1) nb
  pB : ∀ {out : Array Keyed} {na nb : Nat} (h : nb - 1 < b.size), 1 ≤ nb → Hi a.toList b.toList out.toList.reverse na nb → (∀ j, j < na → j < a.size → K a j ≤ K b (nb - 1)) → Hi a.toList b.toList (out.push b[nb - 1]).toList.reverse na (nb - 1)
  f0 : ∀ {out : Array Keyed} {na nb : Nat}, Hi a.toList b.toList out.toList.reverse na nb → na = 0 ∨ nb = 0 → Mo a.toList b.toList (a.extract 0 na ++ b.extract 0 nb ++ out.reverse).toList
  fB : ∀ {out : Array Keyed} {na nb : Nat}, Hi a.toList b.toList out.toList.reverse na nb → nb = 1 → Mo a.toList b.toList (b.extract 0 nb ++ a.extract 0 na ++ out.reverse).toList
section
variable {prog : Program} {w : World} {A : Around} {E : Value → Shared → Prop} {s : Shared}
end
end Sg
set_option maxHeartbeats 4000000
namespace Sg
open PySem PyProof.Rows
theorem si_congr {xs ys : Array Keyed} {lo n : Nat} (h : SI xs lo n) (e : ∀ k, lo ≤ k → k < lo + n → ys[k]? = xs[k]?) : SI ys lo n := fun i j hij hj => by
  have k1 : K ys (lo + i) = K xs (lo + i) := K_congr (e _ (by omega) (by omega))
  have k2 : K ys (lo + j) = K xs (lo + j) := K_congr (e _ (by omega) (by omega))
  rw [k1, k2]
  exact h i j hij hj
noncomputable abbrev Pd := Nat × Nat × Nat
noncomputable def Stk (xs : Array Keyed) : List Pd → Nat → Nat → Prop
  | [], a, b => a = b
  | p :: r, a, b => p.1 = a ∧ 1 ≤ p.2.1 ∧ SI xs p.1 p.2.1 ∧ Stk xs r (a + p.2.1) b
theorem Stk.le {xs : Array Keyed} : ∀ {l : List Pd} {a b : Nat}, Stk xs l a b → a + l.length ≤ b
  | [], a, b, h => by rw [show a = b from h]; simp
  | p :: r, a, b, ⟨h1, h2, h3, h4⟩ => by
    have := h4.le
    rw [List.length_cons]
    omega
theorem Stk.congr {xs ys : Array Keyed} : ∀ {l : List Pd} {a b : Nat}, Stk xs l a b → (∀ k, a ≤ k → k < b → ys[k]? = xs[k]?) → Stk ys l a b
  | [], _, _, h, _ => h
  | p :: r, a, b, ⟨h1, h2, h3, h4⟩, e => by
    have := h4.le
    exact ⟨h1, h2, si_congr h3 fun k k1 k2 => e k (by omega) (by omega), h4.congr fun k k1 k2 => e k (by omega) k2⟩
theorem Stk.one {xs : Array Keyed} {l : List Pd} {b : Nat} (h : Stk xs l 0 b) (hl : l.length ≤ 1) (hb : 1 ≤ b) : SI xs 0 b := by
  match l, h, hl with
  | [], h, _ => exact absurd (show 0 = b from h) (by omega)
  | [p], ⟨h1, h2, h3, h4⟩, _ =>
    have e : 0 + p.2.1 = b := h4
    rw [h1, show p.2.1 = b by omega] at h3
    exact h3
  | _ :: _ :: _, _, hl => simp at hl
section
variable {prog : Program} {w : World} {A : Around} {E : Value → Shared → Prop} {s : Shared} {a₀ : Array Keyed}
end
end Sg
set_option maxHeartbeats 4000000
namespace Sg
open PySem PyProof.Rows
section
variable {prog : Program} {w : World} {A : Around} {E : Value → Shared → Prop} {s : Shared} {a₀ : Array Keyed}
end
end Sg
set_option maxHeartbeats 4000000
namespace L2
open PySem PySem.Spec PyProof.Rows PySem.W Gc
section
variable {prog : Program} {w : World} {A : Around} {E : Value → Shared → Prop} {s : Shared}
end
section
variable {prog : Program} {w : World} {A : Around} {E : Value → Shared → Prop} {s : Shared}
end
end L2
set_option maxHeartbeats 4000000
namespace L2
open PySem PySem.Spec PyProof.Rows PySem.W Gc
end L2
set_option maxHeartbeats 4000000
namespace L2
open PySem PySem.Spec PyProof.Rows
noncomputable def cxN (X : Cx) (N' : List Str) (scope : Scope) (x : Str) (cl : List (Str × Addr)) (C : Addr) (s3 : Shared) (H3 : Hp) (fp : List Addr) : Cx where
  prog := X.prog
  w := X.w
  K := X.K
  mg := X.mg
  base := X.base
  A := X.A
  N := N'
  s₀ := s3
  H₀ := H3
  env := compEnvC scope ((x, C + 1) :: cl) C X.env
  outer := X.stack
  stack := X.stack
  ex := fp
  fn := fun y => decide (y = x)
  calm := X.calm
  pn := []
  xe := fun _ _ => False
theorem cxN_fn {X : Cx} {N' : List Str} {scope : Scope} {x : Str} {cl : List (Str × Addr)} {C : Addr} {s3 : Shared} {H3 : Hp} {fp : List Addr} : (cxN X N' scope x cl C s3 H3 fp).fn x = true := decide_eq_true rfl
structure CompOkN (X : Cx) (x : Str) (ts : List (Str × Nat)) (scope : Scope) (cl : List (Str × Addr)) : Prop where
  clos : closureFor scope X.env = pure cl
  sub : ∀ y c, cl.lookup y = some c → X.env.cells.lookup y = some c
  cells : ∀ n, cellsFrom n scope.names cl = (x, n) :: cl
  kind : scope.kind = .function
  locs : (scope.names.all fun p => p.2 != .local || scope.names.lookup p.1 == some .local) = true
  nd : (x :: ts.map (·.1)).Nodup
  around : (ts.all fun p => decide (X.N[p.2]? = some p.1) && (X.env.kindOf p.1 == some .cell || X.env.kindOf p.1 == some .free) && (cl.lookup p.1).isSome &&
    ((relabel scope X.env).names.lookup p.1 == some .cell || (relabel scope X.env).names.lookup p.1 == some .free)) = true
  has : ((relabel scope X.env).names.all fun p => !(p.2 == .cell || p.2 == .free) || decide (p.1 = x) || (cl.lookup p.1).isSome) = true
section
variable {X : Cx} {elt iter tg : Expr} {ifs : List Expr} {x : Str} {pos : Pos} {scope : Scope} {cl : List (Str × Addr)} {ts : List (Str × Nat)} {wi : TI} {te : TE} {g : TG} {tt : TT}
theorem CompOkN.locs' (O : CompOkN X x ts scope cl) : ∀ y ∈ scope.names, y.2 = .local → scope.names.lookup y.1 = some .local := fun y hy e => by
  have h := List.all_eq_true.mp O.locs y hy
  rw [e] at h
  rcases Bool.or_eq_true_iff.mp h with z | z
  · cases z
  · exact beq_iff_eq.mp z
theorem CompOkN.from' (O : CompOkN X x ts scope cl) : ∀ (i : Nat) (y : Str), (ts.map (·.1))[i]? = some y → ∃ j, (sltOf ts)[i]? = some j ∧ X.N[j]? = some y ∧ (X.env.kindOf y = some .cell ∨ X.env.kindOf y = some .free) ∧ (cl.lookup y).isSome = true ∧
    ((relabel scope X.env).names.lookup y = some .cell ∨ (relabel scope X.env).names.lookup y = some .free) := fun i y e1 => by
  rw [List.getElem?_map] at e1
  cases q : ts[i]? with
  | none => rw [q] at e1; cases e1
  | some p =>
    rw [q] at e1
    have e2 : p.1 = y := Option.some.inj e1
    subst e2
    have h := List.all_eq_true.mp O.around p (List.mem_of_getElem? q)
    simp only [Bool.and_eq_true, Bool.or_eq_true, beq_iff_eq, decide_eq_true_eq] at h
    obtain ⟨⟨⟨h1, h2⟩, h3⟩, h4⟩ := h
    refine ⟨p.2, ?_, h1, h2, h3, h4⟩
    show (ts.map (·.2))[i]? = some p.2
    rw [List.getElem?_map, q] <;> rfl
theorem lookN {x y : Str} {a c : Addr} {cl : List (Str × Addr)} (h : ((x, a) :: cl).lookup y = some c) : (y = x ∧ c = a) ∨ (y ≠ x ∧ cl.lookup y = some c) := by
  rw [List.lookup_cons] at h
  cases e : y == x with
  | true => rw [e] at h; exact .inl ⟨beq_iff_eq.mp e, (Option.some.inj h).symm⟩
  | false => rw [e] at h; exact .inr ⟨beq_eq_false_iff_ne.mp e, h⟩
theorem lookN_ne {x y : Str} {a : Addr} {cl : List (Str × Addr)} (h : y ≠ x) : ((x, a) :: cl).lookup y = cl.lookup y := by
  rw [List.lookup_cons, beq_eq_false_iff_ne.mpr h]
theorem lookN_eq {x : Str} {a : Addr} {cl : List (Str × Addr)} : ((x, a) :: cl).lookup x = some a := by
  rw [List.lookup_cons, beq_self_eq_true]
theorem CompOkN.has' (O : CompOkN X x ts scope cl) (a : Addr) : ∀ y, ((relabel scope X.env).names.lookup y = some .cell ∨ (relabel scope X.env).names.lookup y = some .free) → ∃ c, ((x, a) :: cl).lookup y = some c := fun y h => by
  have go : ∀ k : NameKind, (k = .cell ∨ k = .free) → (relabel scope X.env).names.lookup y = some k → ∃ c, ((x, a) :: cl).lookup y = some c := fun k hk e => by
    by_cases hy : y = x
    · rw [hy]; exact ⟨a, lookN_eq⟩
    have z := List.all_eq_true.mp O.has (y, k) (PySem.mem_of_lookup e)
    rw [lookN_ne hy]
    rcases Bool.or_eq_true_iff.mp z with z | z
    · rcases Bool.or_eq_true_iff.mp z with z | z
      · rcases hk with e | e <;> (rw [e] at z; cases z)
      · exact absurd (of_decide_eq_true z) hy
    · exact Option.isSome_iff_exists.mp z
  rcases h with h | h
  · exact go _ (.inl rfl) h
  · exact go _ (.inr rfl) h
theorem wpAny_newEnv_one {M : Model} {A : Around} {E : Value → Shared → Prop} {s : Shared} {globals : Addr} {qual : Str} {env : Env} {bl : Addr} {Q : Env → Shared → Prop} (hc : ∀ n, cellsFrom n scope.names cl = (x, n) :: cl)
    (hQ : ∀ h', h'.Ns s.heap.objs.size (fun _ => none) → (∀ b o, s.heap.get? b = some o → h'.get? b = some o) → h'.IsCell (s.heap.objs.size + 1) none →
      Q { scope, locals := s.heap.objs.size, globals, cells := (x, s.heap.objs.size + 1) :: cl, qual, func := none, code := env.code, frame := env.frame, builtins := env.builtins } { s with heap := h' }) :
    wpAny M A (newFunctionEnv scope globals cl [] qual none .none (some env) bl) Q E s := by
  simp only [newFunctionEnv, Option.isSome_some, if_true]
  refine wpAny_bind (wpAny_alloc ?_)
  refine wpAny_bind (wpAny_layCells _ (fun name kind cells => by cases hkc : kind == NameKind.cell <;> simp [hkc]) _ _ _ _ ?_)
  have sz : ({ s with heap := s.heap.push { cls := .type "dict", data := .dict #[] } } : Shared).heap.objs.size = s.heap.objs.size + 1 := Heap.size_push ..
  rw [sz, hc]
  have ok := cellsFrom_ok scope.names (s.heap.push { cls := .type "dict", data := .dict #[] }) (s.heap.objs.size + 1) [] ⟨fun _ _ hm => (nomatch hm), List.Pairwise.nil⟩ (by rw [Heap.size_push]; exact Nat.le_refl _)
  rw [Heap.size_push] at ok
  have hm : (x, s.heap.objs.size + 1) ∈ cellsFrom (s.heap.objs.size + 1) scope.names [] := by
    have go : ∀ (ns : List (Str × NameKind)) (n : Nat) (acc acc' : List (Str × Addr)), ∃ d, cellsFrom n ns acc = d ++ acc ∧ cellsFrom n ns acc' = d ++ acc' := by
      intro ns
      induction ns with
      | nil => exact fun n acc acc' => ⟨[], rfl, rfl⟩
      | cons p r ih =>
        obtain ⟨name, kind⟩ := p
        intro n acc acc'
        unfold cellsFrom
        split
        · obtain ⟨d, e1, e2⟩ := ih (n + 1) ((name, n) :: acc) ((name, n) :: acc')
          exact ⟨d ++ [(name, n)], by rw [e1]; simp, by rw [e2]; simp⟩
        · exact ih n acc acc'
    obtain ⟨d, e1, e2⟩ := go scope.names (s.heap.objs.size + 1) cl []
    rw [hc] at e1
    have : d = [(x, s.heap.objs.size + 1)] := by
      have : [(x, s.heap.objs.size + 1)] ++ cl = d ++ cl := e1
      exact (List.append_cancel_right this).symm
    rw [e2, this]
    simp
  refine wpAny_bind ?_
  rw [List.forIn_nil]
  refine wpAny_pure (wpAny_pure ?_)
  exact hQ _ ((Heap.Ns.new s.heap (.type "dict")).keeps (pushCells_keeps _ _)) (fun b o e => pushCells_keeps _ _ b o (Heap.get?_push_of_some _ e)) (ok.empty _ _ hm).1
theorem compN_ok {pins : List (Addr × Obj)} {σ : St} {H3 : Hp} {s3 : Shared} {fp : List Addr} (O : CompOkN X x ts scope cl) (I3 : Inv X pins σ H3 s3) (hfp : ∀ b ∈ fp, FpOk X pins H3 b ∧ b < s3.heap.objs.size) :
    (cxN X (nmsL [x] ts) scope x cl s3.heap.objs.size s3 H3 fp).Ok where
  mod := I3.ok.mod
  kind := O.kind
  glob := I3.ok.glob
  blt := I3.ok.blt
  above := Nat.le_refl _
  inj := fun y z c h1 h2 => by
    have big : ∀ y c, cl.lookup y = some c → c < s3.heap.objs.size := fun y c e => by
      obtain ⟨v, q⟩ := I3.cell y c (O.sub y c e)
      exact q.lt
    rcases lookN h1 with ⟨a1, a2⟩ | ⟨a1, a2⟩ <;> rcases lookN h2 with ⟨b1, b2⟩ | ⟨b1, b2⟩
    · rw [a1, b1]
    · have := big _ _ b2
      rw [a2] at this
      exact absurd this (Nat.not_lt.mpr (Nat.le_succ _))
    · have := big _ _ a2
      rw [b2] at this
      exact absurd this (Nat.not_lt.mpr (Nat.le_succ _))
    · exact I3.ok.inj y z c (O.sub y c a2) (O.sub z c b2)
  has := fun y h => O.has' _ y h
  cab := fun y c h e => by
    have hy : y = x := of_decide_eq_true h
    rcases lookN e with ⟨_, a2⟩ | ⟨a1, _⟩
    · rw [a2]; exact Nat.le_succ _
    · exact absurd hy a1
  hd := I3.ok.hd
  frames := I3.ok.frames
  stk := .inl rfl
  exf := fun b hb => ⟨Nat.ne_of_lt (hfp b hb).2, fun y c e => by
    rcases lookN e with ⟨_, a2⟩ | ⟨_, a2⟩
    · intro z
      have := (hfp b hb).2
      rw [← z, a2] at this
      exact absurd this (Nat.not_lt.mpr (Nat.le_succ _))
    · exact (hfp b hb).1.2.2.2.2.1 y c (O.sub y c a2)⟩
  bs := fun b o e => I3.bs b o e
  bsz := Nat.le_trans I3.ok.bsz I3.sz
  noex := fun b o e hb => by
    rcases (hfp b hb).1.2.2.2.1 with z | z
    · exact I3.ok.noex b o e z
    · exact absurd (Nat.lt_of_lt_of_le (Heap.lt_size (I3.ok.bs b o e).1) z) (Nat.lt_irrefl _)
  exfs := fun b hb hz => by
    rcases List.mem_cons.mp (I3.stkSub b hz) with e | e
    · exact (hfp b hb).1.2.1 e
    · exact (hfp b hb).1.2.2.1 e
  funs := I3.stack
  frf := I3.stkFree
theorem compN_start {pins : List (Addr × Obj)} {σ : St} {H3 : Hp} {s3 : Shared} {fp : List Addr} {h1 : Heap} {tk : Nat} (O : CompOkN X x ts scope cl) (I3 : Inv X pins σ H3 s3) (hfp : ∀ b ∈ fp, FpOk X pins H3 b ∧ b < s3.heap.objs.size)
    (hns : h1.Ns s3.heap.objs.size fun _ => none) (old : ∀ b o, s3.heap.get? b = some o → h1.get? b = some o) (hx : h1.IsCell (s3.heap.objs.size + 1) none) :
    Inv (cxN X (nmsL [x] ts) scope x cl s3.heap.objs.size s3 H3 fp) [] (none :: taken σ (sltOf ts)) H3 { s3 with heap := h1, toks := tk } := by
  refine ⟨compN_ok O I3 hfp, rfl, I3.bare, Un.kept old, ⟨_, hns, fun i y v e1 e2 e3 => ?_⟩, fun y c e => ?_, I3.hok.fresh (Nat.le_refl _), (fun y c e => (lookN e).elim (fun z => by rw [z.2]; exact I3.hok.fresh (Nat.le_succ _)) fun z => I3.freeC y c (O.sub y c z.2)), fun p hp => absurd (show p ∈ ([] : List (Addr × Obj)) from hp) (by simp), I3.hok.kept old, ?_⟩
  · cases i with
    | zero => simp at e2
    | succ i =>
      have e1' : (ts.map (·.1))[i]? = some y := by
        have : (x :: ts.map (·.1))[i + 1]? = some y := e1
        rw [List.getElem?_cons_succ] at this; exact this
      have hyx : y ≠ x := fun z => by
        have := O.nd
        rw [List.nodup_cons] at this
        exact this.1 (z ▸ List.mem_of_getElem? e1')
      rw [List.getElem?_cons_succ] at e2
      obtain ⟨j, hj, hN, hk, hcl, hk2⟩ := O.from' _ y e1'
      have e2' : σ[j]? = some (some v) := by
        have q := e2
        unfold taken at q
        rw [List.getElem?_map, hj] at q
        have q' : (σ[j]?).getD none = some v := Option.some.inj q
        cases z : σ[j]? with
        | none => rw [z] at q'; cases q'
        | some w => rw [z] at q'; rw [show w = some v from q']
      obtain ⟨m, hn, hl⟩ := I3.loc
      have vis : Vis X.env.scope y := hk.elim (fun z => .inr (.inl z)) fun z => .inr (.inr z)
      obtain ⟨u, r, l⟩ := hl j y v hN e2' vis
      obtain ⟨c, hc⟩ := Option.isSome_iff_exists.mp hcl
      refine ⟨u, r, .inr ⟨hk2, c, (lookN_ne hyx).trans hc, ?_⟩⟩
      rcases l with ⟨k, _⟩ | ⟨_, c', hc', z⟩
      · rcases hk with hk | hk
        · rw [k] at hk; cases hk
        · rw [k] at hk; cases hk
      · rw [O.sub y c hc] at hc'
        cases hc'
        obtain ⟨o, ho, hd⟩ := z
        exact ⟨o, old c o ho, hd⟩
  · rcases lookN e with ⟨_, a2⟩ | ⟨_, a2⟩
    · rw [a2]; exact ⟨none, hx⟩
    · obtain ⟨v, o, ho, hd⟩ := I3.cell y c (O.sub y c a2)
      exact ⟨v, o, old c o ho, hd⟩
  · show (none :: taken σ (sltOf ts)).length = (x :: ts.map (·.1)).length
    simp [taken]
theorem compN_run {use : Option (Value → Sem Unit)} {QV : Value → Shared → Prop} {cpos : Pos} {pins : List (Addr × Obj)} {s : Shared} {σ : St} {H : Hp} {Q : VK} (hc : X.calm = true) (O : CompOkN X x ts scope cl) (hi : PI X tg iter wi) (hg : ∀ C s3 H3 fp, PG (cxN X (nmsL [x] ts) scope x cl C s3 H3 fp) tg g)
    (ht : ∀ C s3 H3 fp, PIf (cxN X (nmsL [x] ts) scope x cl C s3 H3 fp) ifs tt) (he : ∀ C s3 H3 fp, PE (cxN X (nmsL [x] ts) scope x cl C s3 H3 fp) elt te)
    (hs : ∀ x, foldedSetIterable iter X.env x = pure x) (I : Inv X pins σ H s) (h : tCompG wi g tt 1 (sltOf ts) te σ H Q)
    (fin : ∀ (D C : Addr) (s6 : Shared) (H5 : Hp), Inv X pins σ H5 s6 → FpOk X pins H5 C → (∃ m, s6.heap.Ns C m) → Q (.ref D) H5 → compPost (model X.prog X.w) X.A X.xe use QV (.ref D) C (.ok .next) s6) :
    wpAny (model X.prog X.w) X.A (comprehension (.ListComp elt [⟨tg, iter, ifs, 0⟩] scope pos) scope X.env cpos (newList []) false (eval iter X.env) use) QV X.xe s := by
  refine wpAny_comprehension_free (use := use) rfl hs O.clos O.kind O.locs' (thn (hi pins s σ H _ I h) fun v s1 h1 => thn h1 fun itv s2 h2 => ?_)
  obtain ⟨it, fp, tn, J, H2, rfl, I2, T, st2, f2, q⟩ := h2
  have hD : H2 s2.heap.objs.size = none := I2.hok.fresh (Nat.le_refl _)
  obtain ⟨W, ⟨m0, w0⟩, turn⟩ := q s2.heap.objs.size hD
  refine wpAny_newObj_type ?_
  have I3 : Inv X pins σ (upd H2 s2.heap.objs.size (.lst [])) { s2 with heap := s2.heap.push { cls := .type "list", dict := none, data := .seq ([] : List Value).toArray } } :=
    I2.laid (a := s2.heap.objs.size) (o := .lst []) (t' := s2.toks) (fun b u e => Heap.get?_push_of_some _ e) (Nat.le_refl _) ⟨Nat.zero_le _, [], 0, .nil, Heap.get?_push_size _ rfl⟩
  generalize hs3 : ({ s2 with heap := s2.heap.push { cls := .type "list", dict := none, data := .seq ([] : List Value).toArray } } : Shared) = s3 at I3
  have sz3 : s3.heap.objs.size = s2.heap.objs.size + 1 := by rw [← hs3, Heap.size_push]
  have old3 : ∀ b u, s2.heap.get? b = some u → s3.heap.get? b = some u := fun b u e => by rw [← hs3]; exact Heap.get?_push_of_some _ e
  generalize hH3 : upd H2 s2.heap.objs.size (.lst []) = H3 at I3 w0
  have fp2 : ∀ b ∈ fp, b < s2.heap.objs.size := fun b hb => by
    obtain ⟨o, e, _⟩ := T.obj _ _ st2 b hb
    exact Heap.lt_size e
  have hfp : ∀ b ∈ fp, FpOk X pins H3 b ∧ b < s3.heap.objs.size := fun b hb => by
    refine ⟨⟨?_, (f2 b hb).2⟩, by rw [sz3]; exact Nat.lt_succ_of_lt (fp2 b hb)⟩
    rw [← hH3, upd_ne (Nat.ne_of_lt (fp2 b hb))]
    exact (f2 b hb).1
  refine wpAny_newEnv_one O.cells (fun h₁ hns₁ old hx₁ => ?_)
  have start : Inv (cxN X (nmsL [x] ts) scope x cl s3.heap.objs.size s3 H3 fp) [] (none :: taken σ (sltOf ts)) H3 { s3 with heap := h₁ } := compN_start (tk := s3.toks) O I3 hfp hns₁ old hx₁
  have st4 : tn 0 h₁ := T.keep _ _ _ st2 fun b hb o e => old b o (old3 b o e)
  have okX : ∀ {H' : Hp}, (∀ b ∈ fp, H' b = none) → ∀ b ∈ fp, FpOk (cxN X (nmsL [x] ts) scope x cl s3.heap.objs.size s3 H3 fp) [] H' b := fun hn b hb => by
    refine ⟨hn b hb, Nat.ne_of_lt (hfp b hb).2, fun z => ?_, .inl hb, fun y c e => (lookN e).elim (fun z z' => by have q := (hfp b hb).2; rw [← z', z.2] at q; exact absurd q (Nat.not_lt.mpr (Nat.le_succ _))) fun z => (f2 b hb).2.2.2.2.1 y c (O.sub y c z.2), fun p hp => absurd (show p ∈ ([] : List (Addr × Obj)) from hp) (by simp)⟩
    rcases List.mem_cons.mp (I3.stkSub b z) with e | e
    · exact (f2 b hb).2.1 e
    · exact (f2 b hb).2.2.1 e
  have loop : ∀ s₄ : Shared, s₄ = { s3 with heap := h₁ } →
      codeAny (model X.prog X.w) X.A (.compLoop (.ListComp elt [⟨tg, iter, ifs, 0⟩] scope pos) 0 (.ref it) (.ref s2.heap.objs.size) (compEnvC scope ((x, s3.heap.objs.size + 1) :: cl) s3.heap.objs.size X.env))
        (compPost (model X.prog X.w) X.A X.xe use QV (.ref s2.heap.objs.size) s3.heap.objs.size) s₄ := by
    rintro s₄ rfl
    refine compLoop_ifs (fun n s' => ∃ i ys σ0 H', σ0.length = 1 ∧ Inv (cxN X (nmsL [x] ts) scope x cl s3.heap.objs.size s3 H3 fp) [] (σ0 ++ taken σ (sltOf ts)) H' s' ∧ tn i s'.heap ∧ (∀ b ∈ fp, H' b = none) ∧ W i n ys H') ?_ m0
      ⟨0, [], [none], H3, rfl, start, st4, fun b hb => (hfp b hb).1.1, w0⟩
    rintro n s5 ⟨i, ys, σ0, H5, l0, I5, st5, fr5, w5⟩
    rcases turn i n ys H5 w5 with ⟨stop, qn⟩ | ⟨go, step⟩
    · refine thn (T.done (cxN X (nmsL [x] ts) scope x cl s3.heap.objs.size s3 H3 fp) rfl rfl rfl hc i [] s5 (σ0 ++ taken σ (sltOf ts)) H5 _ I5 (okX fr5) st5 stop) fun r s6 ⟨hr, I6⟩ => ?_
      subst hr
      obtain ⟨m, hn, _⟩ := id I6.loc
      have u6 : Un (frs X.stack) fp H3 H5 s3.heap s6.heap := I6.base
      have fC : H5 s3.heap.objs.size = none := I6.free
      exact fin s2.heap.objs.size s3.heap.objs.size s6 H5 (I3.call' (s' := s6) (ch := fp) I6.os u6 I6.hok I6.bare (fun b hb => ⟨(f2 b hb).2.2.2.1, (f2 b hb).2.1, (f2 b hb).2.2.2.2.1, (f2 b hb).2.2.2.2.2⟩))
        (I3.fpOk (Nat.le_refl _) fC) ⟨m, hn⟩ qn
    · refine thn (T.item (cxN X (nmsL [x] ts) scope x cl s3.heap.objs.size s3 H3 fp) rfl rfl rfl hc i [] s5 (σ0 ++ taken σ (sltOf ts)) H5 _ I5 (okX fr5) st5 go) fun r s6 ⟨u, hr, h6⟩ => ?_
      subst hr
      refine thn h6 fun _ s7 ⟨z, H7, I7, rz, yz, st7, fr7⟩ => ?_
      have I7' := I7.pinned (okX fr7) (T.obj _ _ st7)
      refine thn (hg s3.heap.objs.size s3 H3 fp _ s7 _ H7 z u _ I7' rz (step z H7 σ0 yz l0)) fun _ s8 ⟨σ8, H8, I8, ⟨σ1, l1, e8⟩, q8⟩ => ?_
      subst e8
      refine thn (ht s3.heap.objs.size s3 H3 fp _ s8 _ H8 _ I8 q8) fun b s9 ⟨H9, I9, q9⟩ => ?_
      cases b with
      | true =>
        rw [if_pos rfl] at q9 ⊢
        refine thn (he s3.heap.objs.size s3 H3 fp _ s9 _ H9 _ I9 q9) fun y s10 ⟨vy, H10, I10, ry, hD9, hl9, m', hm', w9⟩ => ?_
        refine thn (mt_append (X := cxN X (nmsL [x] ts) scope x cl s3.heap.objs.size s3 H3 fp) _ s10 _ H10 (.ref s2.heap.objs.size) [vy] (.ref s2.heap.objs.size) [y] (fun _ H11 => H11 = upd H10 s2.heap.objs.size (.lst (ys ++ [vy]))) I10 rfl (.cons ry .nil) ⟨_, ys, vy, rfl, rfl, hD9, hl9, rfl⟩) fun _ s11 ⟨_, H11, I11, _, e11⟩ => ?_
        subst e11
        refine ⟨m', hm', i + 1, ys ++ [vy], σ1, _, l1, I11.unpinned, T.keep _ _ _ st7 fun b hb o e => (I11.pin (b, o) (List.mem_append_right _ (List.mem_append_right _ (mem_pinsAt hb e)))).1, fun b hb => ?_, w9⟩
        obtain ⟨o, e, d⟩ := T.obj _ _ st7 b hb
        exact (I11.pin (b, o) (List.mem_append_right _ (List.mem_append_right _ (mem_pinsAt hb e)))).2.1
      | false =>
        rw [if_neg Bool.false_ne_true] at q9 ⊢
        obtain ⟨m', hm', w9⟩ := q9
        refine ⟨m', hm', i + 1, ys, σ1, _, l1, I9.unpinned, T.keep _ _ _ st7 fun b hb o e => (I9.pin (b, o) (List.mem_append_right _ (List.mem_append_right _ (mem_pinsAt hb e)))).1, fun b hb => ?_, w9⟩
        obtain ⟨o, e, d⟩ := T.obj _ _ st7 b hb
        exact (I9.pin (b, o) (List.mem_append_right _ (List.mem_append_right _ (mem_pinsAt hb e)))).2.1
  have hst := codeAny_compStart_list (loop _ rfl) (T.self X.A 0 _ _ _ st4 (loop _ rfl))
  exact hst
theorem pe_compN (hc : X.calm = true) (O : CompOkN X x ts scope cl) (hi : PI X tg iter wi) (hg : ∀ C s3 H3 fp, PG (cxN X (nmsL [x] ts) scope x cl C s3 H3 fp) tg g)
    (ht : ∀ C s3 H3 fp, PIf (cxN X (nmsL [x] ts) scope x cl C s3 H3 fp) ifs tt) (he : ∀ C s3 H3 fp, PE (cxN X (nmsL [x] ts) scope x cl C s3 H3 fp) elt te)
    (hs : ∀ x, foldedSetIterable iter X.env x = pure x := by intro _; rfl) : PE X (.ListComp elt [⟨tg, iter, ifs, 0⟩] scope pos) (tCompG wi g tt 1 (sltOf ts) te) := by
  intro pins s σ H Q I h
  rw [eval_ListComp]
  refine compN_run (use := none) hc O hi hg ht he hs I h fun D C s6 H5 I6 fC ⟨m, hn⟩ q => ?_
  refine ⟨m, hn, fun h' sb => ⟨.ref D, H5, ?_, rfl, q⟩⟩
  exact I6.turned (it := C) (t' := s6.toks) (fun b o hb e => (sb.2 b hb).trans e) fC.1 fC.2.1 fC.2.2.2.1 fC.2.2.2.2.1 fC.2.2.2.2.2
end
section
variable {X : Cx} {N' : List Str} {scope : Scope} {x : Str} {cl : List (Str × Addr)} {C : Addr} {s3 : Shared} {H3 : Hp} {fp : List Addr}
theorem call_len_seqN : CallR (cxN X N' scope x cl C s3 H3 fp) (.builtin "len") (fun xs H Q => ∃ p ys, xs = [V.ref p] ∧ (SqL X.K H p ys ∨ SqT X.K H p ys) ∧ Q (.int ((ys.length : Nat) : Int)) H) := call_len_seq
theorem pi_listN {tg l : Expr} {tl : TE} (hl : PE (cxN X N' scope x cl C s3 H3 fp) l tl) : PI (cxN X N' scope x cl C s3 H3 fp) tg l (iList X.K tl) := pi_list hl
end
end L2
set_option maxHeartbeats 4000000
namespace K8
open PySem L2 Gc Ch
seal wpAny
noncomputable def top (i : Nat) : Stmt := PySem.Challenge.pw_surestretch_k08_whole_all_rows_of_trials.main.body.getD i (.Pass ⟨0, 0, 0, 0⟩)
noncomputable abbrev s_cho : Stmt := top 1
noncomputable abbrev s_whole : Stmt := top 6
noncomputable abbrev s_cd : Stmt := top 7
noncomputable abbrev s_frac : Stmt := top 8
noncomputable abbrev s_pow : Stmt := top 10
noncomputable abbrev s_wtop : Stmt := top 11
noncomputable abbrev s_wgt : Stmt := top 12
noncomputable abbrev s_rsum : Stmt := top 13
noncomputable abbrev s_cell : Stmt := top 15
noncomputable abbrev s_cnt : Stmt := top 16
noncomputable abbrev s_div : Stmt := top 17
noncomputable abbrev s_low : Stmt := top 18
noncomputable abbrev s_law : Stmt := top 19
structure Txt (mg : Str → Option Value) : Prop where
  range : mg "range" = none
  min : mg "min" = none
  len : mg "len" = none
  isinstance : mg "isinstance" = none
  int : mg "int" = none
  bool : mg "bool" = none
  tuple : mg "tuple" = none
  abs : mg "abs" = none
  all : mg "all" = none
  sum : mg "sum" = none
structure CA where
  StretchError : Addr
  NoNumber : Addr
structure CF (K : PySem.W.Frag) (mg : Str → Option Value) (C : CA) : Prop where
  mStretchError : mg "StretchError" = some (.ref C.StretchError)
  mNoNumber : mg "NoNumber" = some (.ref C.NoNumber)
  xNoNumber : XCls K mg "NoNumber" C.NoNumber
  iNoNumber : XInst K C.NoNumber
theorem passN {P : Program} {w : World} {X : Cx} : Passes (CXX P w) X E0 := fun _ _ _ _ _ _ _ h => (cxx_never h).elim
noncomputable def isW (t : Th) : Bool := isIntT t && !isBoolT t
theorem isW_shape {t : Th} (h : isW t = true) : ∃ i, t = .int i := by
  cases t <;> first | exact ⟨_, rfl⟩ | (simp [isW, isIntT, isBoolT] at h)
theorem at0 {x : V} {xs : List V} : atI (x :: xs) 0 = some x := atI_nat (xs := x :: xs) (j := 0) rfl
theorem at1 {x y : V} {xs : List V} : atI (x :: y :: xs) 1 = some y := atI_nat (xs := x :: y :: xs) (j := 1) rfl
theorem den_p {H : Hp} {p : Addr} {a b : Int} (h : H p = some (.tup [.int a, .int b])) : Den H (.tup [.int a, .int b]) (.ref p) := ⟨p, _, rfl, h, _, _, rfl, rfl, _, _, rfl, rfl, rfl⟩
theorem _root_.Gc.Sz.smk {n : Nat} {i : Int} (h : Sz n i) (hn : n ≤ 8900) : Smk i := h.mono hn
section
variable {P : Program} {w : World} {K : PySem.W.Frag} {mg : Str → Option Value} {base : Heap}
noncomputable def spCho : Sp := fun vs H Q _ => ∃ n k : Int, vs = [.int n, .int k] ∧ n ≤ 100 ∧ Q (.int (cho n k)) H
theorem sc_cho : FnScope ["n", "k", "ways", "taken"] ["n", "k"] (defScope s_cho) := ⟨rfl, rfl, rfl, by decide +kernel, rfl, by decide +kernel, by decide +kernel⟩
theorem ok_cho {f : Addr} {fd : FuncData} (F : Fun K "choices" "choices" s_cho f fd) (T : Txt mg) : FnOk P w K mg base CX0 1 f fd ["n", "k"] spCho := by
  refine F.ok sc_cho (fun vs H Q E h => ?_) (fun cdv A outer s H vs Q E hr h => ?_)
  · obtain ⟨n, k, rfl, _⟩ := h
    rfl
  obtain ⟨n, k, rfl, hn, q⟩ := h
  refine ⟨_, (pss_cons (ps_if (PW.pt (pw_or (pt_cmpR op_lt (pv 1) pe_int (nomark _)) (pw_or1 (pt_cmpR op_gt (pv 1) (pv 0) (nomark _))))) (pss_one (ps_ret pe_int)) pss_nil)
    (pss_cons (ps_set (i := 2) sc_cho.nd rfl (Or.inl rfl) pe_int)
    (pss_cons (ps_for PassesOwn.never rfl (pi_range1 rfl T.range (pa_cons (pe_callB (call_min2 rfl) rfl T.min boot_min (pa_cons (pv 1) (pa_cons (pe_op op_sub (pv 0) (pv 1)) pa_nil))) pa_nil)) (pg_name (i := 3) sc_cho.nd rfl (Or.inl rfl)) (pss_one (ps_set (i := 2) sc_cho.nd rfl (Or.inl rfl) (pe_op op_fdiv (pe_op op_mul (pv 2) (pe_op op_sub (pv 0) (pv 3))) (pe_op op_add (pv 3) pe_int)))))
    (pss_one (ps_ret (pv 2)))))), ?_⟩
  refine ⟨_, rfl, _, _, rfl, rfl, _, rfl, ?_⟩
  refine ite2 (fun c => ?_) (fun c => ?_)
  · have c' : k < 0 := of_decide_eq_true c
    refine iteT ?_
    show Q (.int 0) H
    rw [cho_out (.inl c')] at q
    exact q
  have c' : ¬ k < 0 := ofD c
  refine ⟨_, rfl, _, rfl, _, _, rfl, rfl, _, rfl, ?_⟩
  refine ite2 (fun d => ?_) (fun d => ?_)
  · have d' : n < k := of_decide_eq_true d
    show Q (.int 0) H
    rw [cho_out (.inr d')] at q
    exact q
  have d' : ¬ n < k := ofD d
  refine ⟨_, rfl, _, rfl, _, rfl, _, _, rfl, rfl, _, _, rfl, ?_⟩
  refine ⟨_, rfl, ?_, ?_, ?_⟩
  · split <;> omega
  · split <;> omega
  refine for_range (lo := 0) (fun i σ H' => H' = H ∧ ∃ v, σ = [some (.int n), some (.int k), some (.int (binom n.toNat i : Int)), v]) ⟨rfl, none, ?_⟩ ?_ ?_
  · rw [b0] <;> rfl
  · rintro i σ H' hi ⟨rfl, v, rfl⟩
    have hi2 : (i : Int) < n := by
      by_cases z : n - k < k
      · rw [if_pos z] at hi; omega
      · rw [if_neg z] at hi; omega
    have e : (binom n.toNat i : Int) * (n - (0 + (i : Int))) / (0 + (i : Int) + 1) = (binom n.toNat (i + 1) : Int) := by
      rw [Int.zero_add]; exact cho_turn hi2
    refine ⟨_, rfl, _, rfl, _, rfl, _, _, rfl, rfl, _, _, rfl, rfl, .inr ⟨?_, ?_⟩, _, rfl, _, _, rfl, rfl, _, _, rfl, rfl, ⟨?_, ?_⟩, rfl, some (.int (0 + (i : Int))), ?_⟩
    · omega
    · omega
    · omega
    · omega
    rw [← e] <;> rfl
  · rintro σ H' ⟨rfl, v, rfl⟩
    refine ⟨_, rfl, ?_⟩
    rw [← cho_min (by omega) (by omega)] at q
    exact q
noncomputable def spWhole : Sp := fun vs H Q _ => ∃ x t, vs = [x] ∧ Den H t x ∧ Q (.bl (isW t)) H
theorem sc_whole : FnScope ["thing"] ["thing"] (defScope s_whole) := ⟨rfl, rfl, rfl, by decide +kernel, rfl, by decide +kernel, by decide +kernel⟩
theorem ok_whole {f : Addr} {fd : FuncData} (F : Fun K "is_whole" "is_whole" s_whole f fd) (T : Txt mg) : FnOk P w K mg base CX0 1 f fd ["thing"] spWhole := by
  refine F.ok sc_whole (fun vs H Q E h => ?_) (fun cdv A outer s H vs Q E hr h => ?_)
  · obtain ⟨x, t, rfl, _⟩ := h
    rfl
  obtain ⟨x, t, rfl, d, q⟩ := h
  refine ⟨_, (pss_one (ps_ret (pe_and (pe_callB call_isinstD rfl T.isinstance boot_isinstance (pa_cons (pv 0) (pa_cons (pe_bltn (v := .ty "int") rfl T.int boot_int rfl) pa_nil))) (pe_one (pe_not (pe_callB call_isinstD rfl T.isinstance boot_isinstance (pa_cons (pv 0) (pa_cons (pe_bltn (v := .ty "bool") rfl T.bool boot_bool rfl) pa_nil)))))))), ?_⟩
  refine ⟨_, rfl, x, t, _, _, rfl, d, kit_int t, _, rfl, ?_⟩
  cases hi : isIntT t with
  | false =>
    unfold isW at q
    rw [hi, Bool.false_and] at q
    exact iteF q
  | true =>
    unfold isW at q
    rw [hi, Bool.true_and] at q
    exact iteT ⟨_, rfl, x, t, _, _, rfl, d, kit_bool t, _, rfl, q⟩
noncomputable def spCd : Sp := fun vs H Q _ => ∃ a b : Int, vs = [.int a, .int b] ∧ 0 ≤ a ∧ 0 ≤ b ∧ Q (.int (Int.gcd a b)) H
noncomputable def mu2 (σ : St) : Nat := match σ with
  | _ :: some (.int y) :: _ => y.toNat
  | _ => 0
theorem sc_cd : FnScope ["one", "other", "rest"] ["one", "other"] (defScope s_cd) := ⟨rfl, rfl, rfl, by decide +kernel, rfl, by decide +kernel, by decide +kernel⟩
theorem ok_cd {f : Addr} {fd : FuncData} (F : Fun K "common_divisor" "common_divisor" s_cd f fd) (T : Txt mg) : FnOk P w K mg base CX0 1 f fd ["one", "other"] spCd := by
  refine F.ok sc_cd (fun vs H Q E h => ?_) (fun cdv A outer s H vs Q E hr h => ?_)
  · obtain ⟨a, b, rfl, _⟩ := h
    rfl
  obtain ⟨a, b, rfl, ha, hb, q⟩ := h
  refine ⟨_, (pss_cons (ps_while PassesOwn.never (pt_cmpR op_ne (pv 1) pe_int (nomark _)) (pss_cons (ps_set (i := 2) sc_cd.nd rfl (Or.inl rfl) (pe_op op_mod (pv 0) (pv 1)))
      (pss_cons (ps_set (i := 0) sc_cd.nd rfl (Or.inl rfl) (pv 1))
      (pss_one (ps_set (i := 1) sc_cd.nd rfl (Or.inl rfl) (pv 2))))))
    (pss_one (ps_ret (pv 0)))), ?_⟩
  refine while_by (fun σ H' => H' = H ∧ ∃ x y v, σ = [some (.int x), some (.int y), v] ∧ 0 ≤ x ∧ 0 ≤ y ∧ Int.gcd x y = Int.gcd a b) (fun σ _ => mu2 σ) ⟨rfl, a, b, none, rfl, ha, hb, rfl⟩ ?_ ?_
  · rintro σ H' ⟨rfl, x, y, v, rfl, hx, hy, g⟩
    refine ⟨_, rfl, rfl, _, rfl, ?_⟩
    refine ite2 (fun c => ?_) (fun c => ?_)
    · have c' : y ≠ 0 := by rintro rfl; exact absurd c (by decide)
      have hm := Int.emod_nonneg x c'
      have hl := Int.emod_lt_of_pos x (show 0 < y by omega)
      refine ⟨_, rfl, _, rfl, _, _, rfl, rfl, (by show 0 < y; omega), _, rfl, _, rfl, ?_⟩
      refine ⟨⟨rfl, y, x % y, some (.int (x % y)), rfl, hy, hm, by rw [gstep hx hy c']; exact g⟩, ?_⟩
      show (x % y).toNat < y.toNat
      omega
    · have c' : y = 0 := by
        by_cases z : y = 0
        · exact z
        · exact absurd (show (!decide (V.int y = V.int 0)) = true by rw [decide_eq_false (fun w => z (by injection w))]; rfl) c
      subst c'
      refine ⟨_, rfl, ?_⟩
      rw [← g, gend hx] at q
      exact q
  · intro σ H Q Q' hq h
    obtain ⟨v, e, h1, k, e2, h2⟩ := h
    exact ⟨v, e, h1, k, e2, hq _ _ h2⟩
noncomputable def spDivn : Sp := fun vs H Q _ => ∃ a b : Int, vs = [.int a, .int b] ∧ 0 ≤ a ∧ 0 ≤ b ∧ Q (.int (Int.gcd a b)) H
theorem sc_div : FnScope ["_law_one", "_law_other"] ["_law_one", "_law_other"] (defScope s_div) := ⟨rfl, rfl, rfl, by decide +kernel, rfl, by decide +kernel, by decide +kernel⟩
theorem ok_div {f : Addr} {fd : FuncData} (F : Fun K "_law_divides" "_law_divides" s_div f fd) (T : Txt mg) : FnOk P w K mg base CX0 1 f fd ["_law_one", "_law_other"] spDivn := by
  refine F.ok sc_div (fun vs H Q E h => ?_) (fun cdv A outer s H vs Q E hr h => ?_)
  · obtain ⟨a, b, rfl, _⟩ := h
    rfl
  obtain ⟨a, b, rfl, ha, hb, q⟩ := h
  refine ⟨_, (pss_cons (ps_while PassesOwn.never (pt_cmpR op_ne (pv 1) pe_int (nomark _)) (pss_one (ps_par (i := 0) (j := 1) rfl sc_div.nd rfl rfl (by decide) rfl rfl (pa_cons (pv 1) (pa_cons (pe_op op_mod (pv 0) (pv 1)) pa_nil)) rfl)))
    (pss_one (ps_ret (pv 0)))), ?_⟩
  refine while_by (fun σ H' => H' = H ∧ ∃ x y, σ = [some (.int x), some (.int y)] ∧ 0 ≤ x ∧ 0 ≤ y ∧ Int.gcd x y = Int.gcd a b) (fun σ _ => mu2 σ) ⟨rfl, _, _, rfl, ha, hb, rfl⟩ ?_ ?_
  · rintro σ H' ⟨rfl, x, y, rfl, hx, hy, g⟩
    refine ⟨_, rfl, rfl, _, rfl, ?_⟩
    refine ite2 (fun c => ?_) (fun c => ?_)
    · have c' : y ≠ 0 := by rintro rfl; exact absurd c (by decide)
      have hm := Int.emod_nonneg x c'
      have hl := Int.emod_lt_of_pos x (show 0 < y by omega)
      refine ⟨_, rfl, _, rfl, _, rfl, _, _, rfl, rfl, (by show 0 < y; omega), _, _, rfl, ?_⟩
      refine ⟨⟨rfl, y, x % y, rfl, hy, hm, by rw [gstep hx hy c']; exact g⟩, ?_⟩
      show (x % y).toNat < y.toNat
      omega
    · have c' : y = 0 := by
        by_cases z : y = 0
        · exact z
        · exact absurd (show (!decide (V.int y = V.int 0)) = true by rw [decide_eq_false (fun w => z (by injection w))]; rfl) c
      subst c'
      refine ⟨_, rfl, ?_⟩
      rw [← g, gend hx] at q
      exact q
  · intro σ H Q Q' hq h
    obtain ⟨v, e, h1, k, e2, h2⟩ := h
    exact ⟨v, e, h1, k, e2, hq _ _ h2⟩
noncomputable def spCell (K : PySem.W.Frag) : Sp := fun vs H Q _ => ∃ (a : Addr) (ns : List Int) (k : Int), vs = [.ref a, .int k] ∧ SqL K H a (ns.map V.int) ∧ 0 ≤ k ∧ Q (.int (ns.getD k.toNat 0)) H
theorem sc_cell : FnScope ["_law_script", "_law_k"] ["_law_script", "_law_k"] (defScope s_cell) := ⟨rfl, rfl, rfl, by decide +kernel, rfl, by decide +kernel, by decide +kernel⟩
theorem ok_cell {f : Addr} {fd : FuncData} (F : Fun K "_law_cell_at" "_law_cell_at" s_cell f fd) (T : Txt mg) : FnOk P w K mg base CX0 1 f fd ["_law_script", "_law_k"] (spCell K) := by
  refine F.ok sc_cell (fun vs H Q E h => ?_) (fun cdv A outer s H vs Q E hr h => ?_)
  · obtain ⟨a, ns, k, rfl, _⟩ := h
    rfl
  obtain ⟨a, ns, k, rfl, hS, h0, q⟩ := h
  refine ⟨_, (pss_cons (ps_if (pt_cmpR op_lt (pv 1) (pe_callB call_len_seq rfl T.len boot_len (pa_cons (pv 0) pa_nil)) (nomark _)) (pss_one (ps_ret (pe_ix ix_list (pv 0) (pv 1) (fun _ _ => rfl)))) pss_nil)
    (pss_one (ps_ret pe_int))), ?_⟩
  have hl : (ns.map V.int).length = ns.length := List.length_map _
  refine ⟨_, rfl, _, rfl, a, _, rfl, .inl hS, _, _, rfl, rfl, _, rfl, ?_⟩
  refine ite2 (fun c => ?_) (fun c => ?_)
  · have c' : k < (((ns.map V.int).length : Nat) : Int) := of_decide_eq_true c
    rw [hl] at c'
    exact ⟨_, rfl, _, rfl, a, _, k, _, rfl, rfl, hS, at_getD h0 c', q⟩
  · have c' := ofD c
    rw [hl] at c'
    rw [getD_out (by omega)] at q
    exact q
noncomputable def frOk : Th → Th → Option (Int × Int)
  | .int a, .int b => if b = 0 then none else some (a, b)
  | _, _ => none
theorem frOk_shape {tx ty : Th} {a b : Int} (h : frOk tx ty = some (a, b)) : tx = .int a ∧ ty = .int b ∧ b ≠ 0 := by
  unfold frOk at h
  split at h
  · split at h
    · cases h
    · rename_i hz; cases h; exact ⟨rfl, rfl, hz⟩
  · cases h
theorem frOk_no1 {tx ty : Th} (h : isW tx = false) : frOk tx ty = none := by
  cases tx <;> first | rfl | cases h
theorem frOk_no2 {tx ty : Th} (h : isW ty = false) : frOk tx ty = none := by
  cases tx <;> cases ty <;> first | rfl | cases h
theorem frOk_yes {a b : Int} (h : b ≠ 0) : frOk (.int a) (.int b) = some (a, b) := if_neg h
noncomputable def spFrac (C : CA) : Sp := fun vs H Q E => ∃ x y tx ty, vs = [x, y] ∧ Den H tx x ∧ Den H ty y ∧
  (∀ a b, frOk tx ty = some (a, b) → Smk b ∧ ∀ p, H p = none → Q (.ref p) (upd H p (.tup [.int (frT a b), .int (frB a b)]))) ∧ (frOk tx ty = none → E (.ref C.NoNumber) none H)
theorem smk_frD {a b : Int} (h : b ≠ 0) (sb : Smk b) : Smk (frD a b) := by
  have h1 : (frD a b).natAbs = Int.gcd a b := by unfold frD; split <;> omega
  have h2 : Int.gcd a b ≤ b.natAbs := Nat.le_of_dvd (by omega) (Nat.gcd_dvd_right ..)
  exact Nat.lt_of_le_of_lt (by rw [h1]; exact h2) sb
theorem gcd_abs (a b : Int) : (Int.gcd (if a < 0 then -a else a) (if b < 0 then -b else b) : Int) = Int.gcd a b := by rw [gabs]
theorem sc_frac : FnScope ["top", "bottom", "divisor"] ["top", "bottom"] (defScope s_frac) := ⟨rfl, rfl, rfl, by decide +kernel, rfl, by decide +kernel, by decide +kernel⟩
theorem ok_frac {C : CA} {f : Addr} {fd : FuncData} (F : Fun K "fraction" "fraction" s_frac f fd) (T : Txt mg) (cf : CF K mg C) {fwhole : Addr} {dwhole : FuncData} (Gwhole : FnOk P w K mg base CX0 2 fwhole dwhole ["thing"] spWhole) (bwhole : Binds K dwhole ["thing"] []) (kwhole : PySem.W.keepIn K (.ref fwhole) = true) (mwhole : mg "is_whole" = some (.ref fwhole)) {fcd : Addr} {dcd : FuncData} (Gcd : FnOk P w K mg base CX0 2 fcd dcd ["one", "other"] spCd) (bcd : Binds K dcd ["one", "other"] []) (kcd : PySem.W.keepIn K (.ref fcd) = true) (mcd : mg "common_divisor" = some (.ref fcd)) : FnOk P w K mg base (CXX P w) 3 f fd ["top", "bottom"] (spFrac C) := by
  refine F.okX sc_frac (fun vs H Q E h => ?_) (fun cdv A outer s H vs Q E hr h => ?_)
  · obtain ⟨x, y, tx, ty, rfl, _⟩ := h
    rfl
  obtain ⟨x, y, tx, ty, rfl, d1, d2, q1, q2⟩ := h
  refine ⟨_, (pss_cons (ps_if (PW.pt (pw_or (pt_not (pt_val (pe_call Gwhole hr rfl mwhole kwhole bwhole .nil pass0 (pa_cons (pv 0) pa_nil)))) (pw_or1 (pt_not (pt_val (pe_call Gwhole hr rfl mwhole kwhole bwhole .nil pass0 (pa_cons (pv 1) pa_nil))))))) (pss_one (ps_raise reachOf rfl cf.xNoNumber rfl (pa_cons pe_str pa_nil))) pss_nil)
    (pss_cons (ps_if (pt_cmpR op_eq (pv 1) pe_int (nomark _)) (pss_one (ps_raise reachOf rfl cf.xNoNumber rfl (pa_cons pe_str pa_nil))) pss_nil)
    (pss_cons (ps_set (i := 2) sc_frac.nd rfl (Or.inl rfl) (pe_call Gcd hr rfl mcd kcd bcd .nil pass0 (pa_cons (pe_callB call_abs rfl T.abs boot_abs (pa_cons (pv 0) pa_nil)) (pa_cons (pe_callB call_abs rfl T.abs boot_abs (pa_cons (pv 1) pa_nil)) pa_nil))))
    (pss_cons (ps_if (pt_cmpR op_lt (pv 1) pe_int (nomark _)) (pss_one (ps_set (i := 2) sc_frac.nd rfl (Or.inl rfl) (pe_un un_neg (pv 2)))) pss_nil)
    (pss_one (ps_ret (pe_tup (pa_cons (pe_op op_fdivK (pv 0) (pv 2)) (pa_cons (pe_op op_fdivK (pv 1) (pv 2)) pa_nil))))))))), ?_⟩
  refine ⟨_, rfl, x, tx, rfl, d1, _, rfl, ?_⟩
  cases hx : isW tx with
  | false => exact iteT (iteT ⟨(by show 1 ≤ sizeLine; decide), q2 (frOk_no1 hx)⟩)
  | true =>
    refine iteF ?_
    refine ⟨_, rfl, y, ty, rfl, d2, _, rfl, ?_⟩
    cases hy : isW ty with
    | false => exact iteT ⟨(by show 1 ≤ sizeLine; decide), q2 (frOk_no2 hy)⟩
    | true =>
      refine iteF ?_
      obtain ⟨a, rfl⟩ := isW_shape hx
      obtain ⟨b, rfl⟩ := isW_shape hy
      have d1' : x = V.int a := d1
      have d2' : y = V.int b := d2
      subst d1' d2'
      refine ⟨_, rfl, rfl, _, rfl, ?_⟩
      by_cases hb : b = 0
      · subst hb
        exact iteT ⟨(by show 1 ≤ sizeLine; decide), q2 rfl⟩
      refine ite2 (fun c => absurd (by have := of_decide_eq_true c; injection this) hb) (fun _ => ?_)
      obtain ⟨sb, q⟩ := q1 a b (frOk_yes hb)
      have sd := smk_frD (a := a) hb sb
      have nd := frD_ne (t := a) hb
      have ha : 0 ≤ (if a < 0 then -a else a) := by split <;> omega
      have hb' : 0 ≤ (if b < 0 then -b else b) := by split <;> omega
      refine ⟨_, rfl, _, rfl, _, rfl, _, rfl, _, _, rfl, ha, hb', ?_⟩
      rw [gcd_abs]
      refine ⟨_, rfl, _, _, rfl, rfl, _, rfl, ?_⟩
      refine ite2 (fun c => ?_) (fun c => ?_)
      · have c' : b < 0 := of_decide_eq_true c
        have e : frD a b = -(Int.gcd a b : Int) := if_pos c'
        rw [e] at sd nd
        refine ⟨_, rfl, _, rfl, ?_⟩
        refine ⟨_, rfl, _, rfl, _, _, rfl, rfl, ⟨nd, sd⟩, _, rfl, _, rfl, _, _, rfl, rfl, ⟨nd, sd⟩, (by show 2 ≤ sizeLine; decide), fun p hp => ?_⟩
        have z := q p hp
        unfold frT frB at z
        rw [e] at z
        exact z
      · have c' : ¬ b < 0 := ofD c
        have e : frD a b = (Int.gcd a b : Int) := if_neg c'
        rw [e] at sd nd
        refine ⟨_, rfl, _, rfl, _, _, rfl, rfl, ⟨nd, sd⟩, _, rfl, _, rfl, _, _, rfl, rfl, ⟨nd, sd⟩, (by show 2 ≤ sizeLine; decide), fun p hp => ?_⟩
        have z := q p hp
        unfold frT frB at z
        rw [e] at z
        exact z
noncomputable def NewFr (H : Hp) (r : Rat) (Q : VK) : Prop := ∀ a H', Same H H' → H' a = some (.tup [.int r.num, .int (r.den : Int)]) → Q (.ref a) H'
noncomputable def Told (H : Hp) (t b : Int) (Q : VK) : Prop := ∀ p, H p = none → Q (.ref p) (upd H p (.tup [.int (frT t b), .int (frB t b)]))
theorem frac_ready {C : CA} {H : Hp} {Q : VK} {E : XK} {t b : Int} (hb : b ≠ 0) (sb : Smk b) (q : Told H t b Q) : spFrac C [.int t, .int b] H Q E := by
  refine ⟨_, _, .int t, .int b, rfl, rfl, rfl, fun a b' e => ?_, fun e => ?_⟩
  · obtain ⟨e1, e2, _⟩ := frOk_shape e
    cases e1; cases e2
    exact ⟨sb, q⟩
  · rw [frOk_yes hb] at e; cases e
theorem told_new {H : Hp} {t b : Int} {r : Rat} {Q : VK} (e : frT t b = r.num ∧ frB t b = (r.den : Int)) (q : NewFr H r Q) : Told H t b Q := fun x hx => by
  refine q x _ (same_new hx _) ?_
  rw [upd_same, e.1, e.2]
structure FrA (H : Hp) (f : Addr) (r : Rat) : Prop where
  ob : H f = some (.tup [.int r.num, .int (r.den : Int)])
  st : Sz 4400 r.num
  sb : Sz 4400 (r.den : Int)
theorem FrA.keep {H H' : Hp} {f : Addr} {r : Rat} (h : FrA H f r) (s : Same H H') : FrA H' f r := ⟨s _ _ h.ob, h.st, h.sb⟩
structure Shp (H : Hp) (a : Addr) (p : Rat) : Prop where
  ob : H a = some (.tup [.int p.num, .int (p.den : Int)])
  lo : 0 ≤ p
  hi : p ≤ 1
  sz : Sz 200 (p.den : Int)
theorem Shp.keep {H H' : Hp} {a : Addr} {p : Rat} (h : Shp H a p) (s : Same H H') : Shp H' a p := ⟨s _ _ h.ob, h.lo, h.hi, h.sz⟩
theorem shp_of {H : Hp} {a : Addr} {t b : Int} (h0 : 0 ≤ t) (h1 : t ≤ b) (hb : 0 < b) (sb : Sz 200 b) (e : H a = some (.tup [.int (t.fdiv (Int.gcd t b : Int)), .int (b.fdiv (Int.gcd t b : Int))])) : Shp H a (rq t b) := by
  have hq : (b : Rat) ≠ 0 := by intro e; have : b = 0 := by exact_mod_cast e
                                omega
  have er : rq t b * (b : Rat) = (t : Rat) := by unfold rq; grind
  obtain ⟨f1, f2⟩ := fr_rat (Int.ne_of_gt hb) er
  have sz := (Sz.fr (Int.ne_of_gt hb) (sz_le h0 h1 sb) sb).2
  unfold frT at f1
  unfold frB at f2 sz
  rw [frD_pos hb] at f1 f2 sz
  have s := rsplit (rq t b)
  have bp : (0 : Rat) < (b : Rat) := by exact_mod_cast hb
  refine ⟨by rw [e, f1, f2], ?_, ?_, by rw [← f2]; exact sz⟩
  · refine nonneg_of bp ?_
    have : (0 : Rat) ≤ (t : Rat) := by exact_mod_cast h0
    grind
  · have : (t : Rat) ≤ (b : Rat) := by exact_mod_cast h1
    have := nonneg_of bp (x := 1 - rq t b) (by grind)
    grind
noncomputable def spPow : Sp := fun vs H Q _ => ∃ b t : Int, vs = [.int b, .int t] ∧ Sz 200 b ∧ 0 ≤ t ∧ t ≤ 20 ∧ Q (.int (b ^ t.toNat)) H
theorem sc_pow : FnScope ["base", "count", "product", "turn"] ["base", "count"] (defScope s_pow) := ⟨rfl, rfl, rfl, by decide +kernel, rfl, by decide +kernel, by decide +kernel⟩
theorem ok_pow {f : Addr} {fd : FuncData} (F : Fun K "power" "power" s_pow f fd) (T : Txt mg) : FnOk P w K mg base CX0 1 f fd ["base", "count"] spPow := by
  refine F.ok sc_pow (fun vs H Q E h => ?_) (fun cdv A outer s H vs Q E hr h => ?_)
  · obtain ⟨b, t, rfl, _⟩ := h
    rfl
  obtain ⟨b, t, rfl, sb, t0, t1, q⟩ := h
  refine ⟨_, (pss_cons (ps_set (i := 2) sc_pow.nd rfl (Or.inl rfl) pe_int)
    (pss_cons (ps_for PassesOwn.never rfl (pi_range1 rfl T.range (pa_cons (pv 1) pa_nil)) (pg_name (i := 3) sc_pow.nd rfl (Or.inl rfl)) (pss_one (ps_set (i := 2) sc_pow.nd rfl (Or.inl rfl) (pe_op op_mulK (pv 2) (pv 0)))))
    (pss_one (ps_ret (pv 2))))), ?_⟩
  refine ⟨_, rfl, _, rfl, by omega, by omega, ?_⟩
  refine for_range (lo := 0) (fun i σ H' => H' = H ∧ ∃ v, σ = [some (.int b), some (.int t), some (.int (b ^ i)), v]) ⟨rfl, none, by rw [Int.pow_zero] <;> rfl⟩ ?_ ?_
  · rintro i σ H' hi ⟨rfl, v, rfl⟩
    refine ⟨_, rfl, _, rfl, _, _, rfl, rfl, ⟨(sb.powN i).smk (by omega), sb.smk (by decide)⟩, rfl, some (.int (0 + (i : Int))), ?_⟩
    rw [Int.pow_succ] <;> rfl
  · rintro σ H' ⟨rfl, v, rfl⟩
    exact ⟨_, rfl, q⟩
theorem cho_nat {n k : Nat} (h : k ≤ n) : cho (n : Int) (k : Int) = (binom n k : Int) := by
  rw [cho_in (by omega) (by omega)] <;> rfl
theorem Shp.num {H : Hp} {a : Addr} {p : Rat} (h : Shp H a p) : 0 ≤ p.num ∧ p.num ≤ (p.den : Int) := ⟨(r_nonneg p).mpr h.lo, (r_le1 p).mpr h.hi⟩
theorem Shp.sn {H : Hp} {a : Addr} {p : Rat} (h : Shp H a p) : Sz 200 p.num := sz_le h.num.1 h.num.2 h.sz
theorem Shp.sd {H : Hp} {a : Addr} {p : Rat} (h : Shp H a p) : Sz 200 ((p.den : Int) - p.num) := sz_sub h.num.1 h.num.2 h.sz
theorem NewFr.on {H H' : Hp} {r : Rat} {Q : VK} (q : NewFr H r Q) (s : Same H H') : NewFr H' r Q := fun a H'' s' e => q a H'' (s.trans s') e
noncomputable def spWtop : Sp := fun vs H Q _ => ∃ (n k : Nat) (a : Addr) (p : Rat), vs = [.int n, .int k, .ref a] ∧ Shp H a p ∧ n ≤ 12 ∧ k ≤ n ∧ Q (.int (wtop p n k)) H
theorem sc_wtop : FnScope ["n", "k", "p"] ["n", "k", "p"] (defScope s_wtop) := ⟨rfl, rfl, rfl, by decide +kernel, rfl, by decide +kernel, by decide +kernel⟩
theorem ok_wtop {f : Addr} {fd : FuncData} (F : Fun K "weight_top" "weight_top" s_wtop f fd) (T : Txt mg) {fcho : Addr} {dcho : FuncData} (Gcho : FnOk P w K mg base CX0 1 fcho dcho ["n", "k"] spCho) (bcho : Binds K dcho ["n", "k"] []) (kcho : PySem.W.keepIn K (.ref fcho) = true) (mcho : mg "choices" = some (.ref fcho)) {fpow : Addr} {dpow : FuncData} (Gpow : FnOk P w K mg base CX0 1 fpow dpow ["base", "count"] spPow) (bpow : Binds K dpow ["base", "count"] []) (kpow : PySem.W.keepIn K (.ref fpow) = true) (mpow : mg "power" = some (.ref fpow)) : FnOk P w K mg base CX0 2 f fd ["n", "k", "p"] spWtop := by
  refine F.ok sc_wtop (fun vs H Q E h => ?_) (fun cdv A outer s H vs Q E hr h => ?_)
  · obtain ⟨n, k, a, p, rfl, _⟩ := h
    rfl
  obtain ⟨n, k, a, p, rfl, sp, hn, hk, q⟩ := h
  refine ⟨_, (pss_one (ps_ret (pe_op op_mulK (pe_op op_mulK (pe_call Gcho hr rfl mcho kcho bcho .nil pass0 (pa_cons (pv 0) (pa_cons (pv 1) pa_nil))) (pe_call Gpow hr rfl mpow kpow bpow .nil pass0 (pa_cons (pe_ix ix_tup (pv 2) pe_int (fun _ _ => rfl)) (pa_cons (pv 1) pa_nil)))) (pe_call Gpow hr rfl mpow kpow bpow .nil pass0 (pa_cons (pe_op op_sub (pe_ix ix_tup (pv 2) pe_int (fun _ _ => rfl)) (pe_ix ix_tup (pv 2) pe_int (fun _ _ => rfl))) (pa_cons (pe_op op_sub (pv 0) (pv 1)) pa_nil)))))), ?_⟩
  have e1 : ((k : Int)).toNat = k := rfl
  have e2 : ((n : Int) - (k : Int)).toNat = n - k := by omega
  have s1 : Sz (200 * k + 1) (p.num ^ k) := sp.sn.powN k
  have s2 : Sz (200 * (n - k) + 1) (((p.den : Int) - p.num) ^ (n - k)) := sp.sd.powN (n - k)
  have s3 := (sz_binom n k).mul s1
  refine ⟨_, rfl, _, rfl, n, k, rfl, by omega, _, rfl, a, _, 0, _, rfl, rfl, SqT.of sp.ob, at0, _, rfl, p.num, k, rfl, sp.sn, by omega, by omega, ?_⟩
  rw [cho_nat hk, e1]
  refine ⟨_, _, rfl, rfl, ⟨(sz_binom n k).smk (by omega), s1.smk (by omega)⟩, _, rfl, a, _, 1, _, rfl, rfl, SqT.of sp.ob, at1, _, rfl, a, _, 0, _, rfl, rfl, SqT.of sp.ob, at0, _, _, rfl, rfl, _, rfl, _, rfl, _, _, rfl, rfl, _, _, rfl, sp.sd, by omega, by omega, ?_⟩
  rw [e2]
  exact ⟨_, _, rfl, rfl, ⟨s3.smk (by omega), s2.smk (by omega)⟩, q⟩
noncomputable def spWgt : Sp := fun vs H Q _ => ∃ (n k : Nat) (a : Addr) (p : Rat), vs = [.int n, .int k, .ref a] ∧ Shp H a p ∧ n ≤ 12 ∧ k ≤ n ∧ NewFr H (wt p n k) Q
theorem sc_wgt : FnScope ["n", "k", "p"] ["n", "k", "p"] (defScope s_wgt) := ⟨rfl, rfl, rfl, by decide +kernel, rfl, by decide +kernel, by decide +kernel⟩
theorem ok_wgt {C : CA} {f : Addr} {fd : FuncData} (F : Fun K "weight" "weight" s_wgt f fd) (T : Txt mg) {fwtop : Addr} {dwtop : FuncData} (Gwtop : FnOk P w K mg base CX0 3 fwtop dwtop ["n", "k", "p"] spWtop) (bwtop : Binds K dwtop ["n", "k", "p"] []) (kwtop : PySem.W.keepIn K (.ref fwtop) = true) (mwtop : mg "weight_top" = some (.ref fwtop)) {fpow : Addr} {dpow : FuncData} (Gpow : FnOk P w K mg base CX0 3 fpow dpow ["base", "count"] spPow) (bpow : Binds K dpow ["base", "count"] []) (kpow : PySem.W.keepIn K (.ref fpow) = true) (mpow : mg "power" = some (.ref fpow)) {ffrac : Addr} {dfrac : FuncData} (Gfrac : FnOk P w K mg base (CXX P w) 3 ffrac dfrac ["top", "bottom"] (spFrac C)) (bfrac : Binds K dfrac ["top", "bottom"] []) (kfrac : PySem.W.keepIn K (.ref ffrac) = true) (mfrac : mg "fraction" = some (.ref ffrac)) : FnOk P w K mg base CX0 4 f fd ["n", "k", "p"] spWgt := by
  refine F.ok sc_wgt (fun vs H Q E h => ?_) (fun cdv A outer s H vs Q E hr h => ?_)
  · obtain ⟨n, k, a, p, rfl, _⟩ := h
    rfl
  obtain ⟨n, k, a, p, rfl, sp, hn, hk, q⟩ := h
  refine ⟨_, (pss_one (ps_ret (pe_call Gfrac hr rfl mfrac kfrac bfrac .nil passN (pa_cons (pe_call Gwtop hr rfl mwtop kwtop bwtop .nil pass0 (pa_cons (pv 0) (pa_cons (pv 1) (pa_cons (pv 2) pa_nil)))) (pa_cons (pe_call Gpow hr rfl mpow kpow bpow .nil pass0 (pa_cons (pe_ix ix_tup (pv 2) pe_int (fun _ _ => rfl)) (pa_cons (pv 0) pa_nil))) pa_nil))))), ?_⟩
  refine ⟨_, rfl, _, rfl, _, rfl, n, k, a, p, rfl, sp, hn, hk, ?_⟩
  refine ⟨_, rfl, a, _, 1, _, rfl, rfl, SqT.of sp.ob, at1, _, rfl, (p.den : Int), n, rfl, sp.sz, by omega, by omega, ?_⟩
  have e3 : ((n : Int)).toNat = n := rfl
  rw [e3]
  have dp : (0 : Int) < (p.den : Int) ^ n := Int.pow_pos (rden p)
  exact frac_ready (Int.ne_of_gt dp) ((sp.sz.powN n).smk (by omega)) (told_new (fr_rat (Int.ne_of_gt dp) (wtop_is p hk)) q)
noncomputable def spRsum : Sp := fun vs H Q _ => ∃ (n i j : Nat) (a : Addr) (p : Rat), vs = [.int n, .int i, .int j, .ref a] ∧ Shp H a p ∧ n ≤ 12 ∧ i ≤ n ∧ j ≤ n ∧ NewFr H (rsum p n i j) Q
noncomputable def ipart (p : Rat) (n i d : Nat) : Int := ism (wtop p n) d - ism (wtop p n) i
theorem ipart_is (p : Rat) {n i d : Nat} (hi : i ≤ n + 1) (hd : d ≤ n + 1) : rn p n i d * (((p.den : Int) ^ n : Int) : Rat) = ((ipart p n i d : Int) : Rat) := by
  have a := ism_cast (f := wtop p n) (g := wt p n) (c := (((p.den : Int) ^ n : Int) : Rat)) (m := i) fun k hk => wtop_is p (by omega)
  have b := ism_cast (f := wtop p n) (g := wt p n) (c := (((p.den : Int) ^ n : Int) : Rat)) (m := d) fun k hk => wtop_is p (by omega)
  unfold rn cu ipart
  rw [Rat.intCast_sub, ← a, ← b]; grind
theorem tops_sum (p : Rat) (n i m : Nat) : ((List.range m).map fun k => wtop p n (i + k)).sum = ipart p n i (i + m) := by
  induction m with
  | zero => simp [ipart]
  | succ m ih =>
    rw [List.range_succ, List.map_append, List.sum_append, ih, List.map_cons, List.map_nil, List.sum_cons, List.sum_nil]
    unfold ipart
    rw [← Nat.add_assoc, ism]
    omega
theorem sc_rsum : FnScope ["n", "i", "j", "p", "tops"] ["n", "i", "j", "p"] (defScope s_rsum) := ⟨rfl, rfl, rfl, by decide +kernel, rfl, by decide +kernel, by decide +kernel⟩
theorem ok_rsum {C : CA} {f : Addr} {fd : FuncData} (F : Fun K "run_sum" "run_sum" s_rsum f fd) (T : Txt mg) {fwtop : Addr} {dwtop : FuncData} (Gwtop : FnOk P w K mg base CX0 3 fwtop dwtop ["n", "k", "p"] spWtop) (bwtop : Binds K dwtop ["n", "k", "p"] []) (kwtop : PySem.W.keepIn K (.ref fwtop) = true) (mwtop : mg "weight_top" = some (.ref fwtop)) {fpow : Addr} {dpow : FuncData} (Gpow : FnOk P w K mg base CX0 3 fpow dpow ["base", "count"] spPow) (bpow : Binds K dpow ["base", "count"] []) (kpow : PySem.W.keepIn K (.ref fpow) = true) (mpow : mg "power" = some (.ref fpow)) {ffrac : Addr} {dfrac : FuncData} (Gfrac : FnOk P w K mg base (CXX P w) 3 ffrac dfrac ["top", "bottom"] (spFrac C)) (bfrac : Binds K dfrac ["top", "bottom"] []) (kfrac : PySem.W.keepIn K (.ref ffrac) = true) (mfrac : mg "fraction" = some (.ref ffrac)) : FnOk P w K mg base CX0 4 f fd ["n", "i", "j", "p"] spRsum := by
  refine F.ok sc_rsum (fun vs H Q E h => ?_) (fun cdv A outer s H vs Q E hr h => ?_)
  · obtain ⟨n, i, j, a, p, rfl, _⟩ := h
    rfl
  obtain ⟨n, i, j, a, p, rfl, sp, hn, hi, hj, q⟩ := h
  refine ⟨_, (pss_cons (ps_setC (i := 4) sc_rsum.nd rfl (Or.inl rfl) (xs := ["k"]) (ts := [("n", 0), ("p", 3)]) rfl ⟨rfl, sub2 rfl rfl, rfl, rfl, rfl, by decide +kernel, rfl, rfl⟩ (pi_range2 rfl T.range (pa_cons (pv 1) (pa_cons (pe_op op_add (pv 2) pe_int) pa_nil))) (fun C s3 H3 fp => (pg_name (i := 0) (show (["k", "n", "p"] : List Str).Nodup by decide +kernel) rfl (Or.inl rfl) (Or.inr rfl))) (fun C s3 H3 fp => pif_nil) (fun C s3 H3 fp => (pe_call Gwtop hr rfl mwtop kwtop bwtop .nil pass0 (pa_cons (pv 1) (pa_cons (pv 0) (pa_cons (pv 2) pa_nil))))))
    (pss_one (ps_ret (pe_call Gfrac hr rfl mfrac kfrac bfrac .nil passN (pa_cons (pe_callB (call_sum rfl) rfl T.sum boot_sum (pa_cons (pv 4) pa_nil)) (pa_cons (pe_call Gpow hr rfl mpow kpow bpow .nil pass0 (pa_cons (pe_ix ix_tup (pv 3) pe_int (fun _ _ => rfl)) (pa_cons (pv 0) pa_nil))) pa_nil)))))), ?_⟩
  refine ⟨_, rfl, _, rfl, _, _, rfl, rfl, _, _, rfl, ⟨by omega, by omega, by omega, by omega⟩, fun D hD => ?_⟩
  have em : i + ((j : Int) + 1 - (i : Int)).toNat = max i (j + 1) := by omega
  have lim : max i (j + 1) ≤ n + 1 := by omega
  refine comp_rangeG (fun m => V.int (wtop p n (i + m))) hD (Nat.le_trans (show _ ≤ 40 by omega) (by decide)) ?_ ?_
  · intro m H2 k hm sm hk
    have ek : (i : Int) + (m : Int) = ((i + m : Nat) : Int) := by omega
    rw [ek]
    exact ⟨_, rfl, _, rfl, _, rfl, n, i + m, a, p, rfl, sp.keep sm, hn, by omega, hk H2 (Same.refl H2)⟩
  intro H2 s2 hD2
  refine ⟨_, rfl, D, (List.range ((j : Int) + 1 - (i : Int)).toNat).map (fun m => wtop p n (i + m)), rfl, SqL.of (by rw [hD2, List.map_map]; rfl), ?_⟩
  rw [tops_sum, em]
  refine ⟨_, rfl, a, _, 1, _, rfl, rfl, SqT.of (sp.keep s2).ob, at1, _, rfl, (p.den : Int), n, rfl, sp.sz, by omega, by omega, ?_⟩
  have e3 : ((n : Int)).toNat = n := rfl
  rw [e3]
  have dp : (0 : Int) < (p.den : Int) ^ n := Int.pow_pos (rden p)
  exact frac_ready (Int.ne_of_gt dp) ((sp.sz.powN n).smk (by omega)) (told_new (fr_rat (Int.ne_of_gt dp) (ipart_is p (show i ≤ n + 1 by omega) lim)) (q.on s2))
open Ec
noncomputable def spLow : Sp := fun vs H Q _ => ∃ t b : Int, vs = [.int t, .int b] ∧ 0 ≤ t ∧ 0 < b ∧ Sz 200 b ∧ ∀ a H', Same H H' → H' a = some (.tup [.int (rq t b).num, .int ((rq t b).den : Int)]) → (t ≤ b → Shp H' a (rq t b)) → Q (.ref a) H'
theorem rq_mul8 {t b : Int} (hb : 0 < b) : rq t b * (b : Rat) = (t : Rat) := by
  have hq : (b : Rat) ≠ 0 := by intro e; have : b = 0 := by exact_mod_cast e
                                omega
  unfold rq
  grind
theorem rq_is {t b : Int} {r : Rat} (hb : 0 < b) (e : r * (b : Rat) = (t : Rat)) : rq t b = r := by
  have hq : (b : Rat) ≠ 0 := by intro e; have : b = 0 := by exact_mod_cast e
                                omega
  unfold rq
  grind
theorem sc_low : FnScope ["_law_top", "_law_bottom", "_law_by"] ["_law_top", "_law_bottom"] (defScope s_low) := ⟨rfl, rfl, rfl, by decide +kernel, rfl, by decide +kernel, by decide +kernel⟩
theorem ok_low {f : Addr} {fd : FuncData} (F : Fun K "_law_lowest" "_law_lowest" s_low f fd) (T : Txt mg) {fdiv : Addr} {ddiv : FuncData} (Gdiv : FnOk P w K mg base CX0 1 fdiv ddiv ["_law_one", "_law_other"] spDivn) (bdiv : Binds K ddiv ["_law_one", "_law_other"] []) (kdiv : PySem.W.keepIn K (.ref fdiv) = true) (mdiv : mg "_law_divides" = some (.ref fdiv)) : FnOk P w K mg base CX0 2 f fd ["_law_top", "_law_bottom"] spLow := by
  refine F.ok sc_low (fun vs H Q E h => ?_) (fun cdv A outer s H vs Q E hr h => ?_)
  · obtain ⟨t, b, rfl, _⟩ := h
    rfl
  obtain ⟨t, b, rfl, t0, b0, sB, q⟩ := h
  refine ⟨_, (pss_cons (ps_set (i := 2) sc_low.nd rfl (Or.inl rfl) (pe_call Gdiv hr rfl mdiv kdiv bdiv .nil pass0 (pa_cons (pv 0) (pa_cons (pv 1) pa_nil))))
    (pss_one (ps_ret (pe_tup (pa_cons (pe_op op_fdivK (pv 0) (pv 2)) (pa_cons (pe_op op_fdivK (pv 1) (pv 2)) pa_nil)))))), ?_⟩
  have nd := frD_ne (t := t) (b := b) (by omega)
  have sd := smk_frD (a := t) (b := b) (by omega) (sB.smk (by decide))
  have fd := frD_pos (a := t) b0
  rw [fd] at nd sd
  refine ⟨_, rfl, _, rfl, t, b, rfl, t0, by omega, ?_⟩
  refine ⟨_, rfl, _, rfl, _, _, rfl, rfl, ⟨nd, sd⟩, _, rfl, _, rfl, _, _, rfl, rfl, ⟨nd, sd⟩, (by show 2 ≤ sizeLine; decide), fun p3 h3 => ?_⟩
  obtain ⟨f1, f2⟩ := fr_rat (Int.ne_of_gt b0) (rq_mul8 (t := t) b0)
  unfold frT at f1
  unfold frB at f2
  rw [fd] at f1 f2
  refine q p3 _ (same_new h3 _) ?_ fun t1 => shp_of t0 t1 b0 sB upd_same
  rw [upd_same]
  show some (HO.tup [V.int (t.fdiv (Int.gcd t b : Int)), V.int (b.fdiv (Int.gcd t b : Int))]) = _
  rw [f1, f2]
noncomputable def spCnt : Sp := fun vs H Q _ => ∃ s g n : Nat, vs = [.int s, .int g, .int n] ∧ 1 ≤ s ∧ s ≤ 5 ∧ g ≤ s ∧ n ≤ 10 ∧ s ^ n ≤ 1024 ∧
  ∀ l H', Same H H' → H' l = some (.lst (((List.range (n + 1)).map fun k => cN s g n k).map V.int)) → Q (.ref l) H'
theorem stp_snoc8 (s g : Nat) (rows : List Int) (w : Int) : stp8 s g (rows ++ [w]) = stp8 s g rows ++ turn8 s g w := by
  unfold stp8
  rw [List.flatMap_append]
  simp
theorem lt40 {n : Nat} (h : n ≤ 100000) : n < sizeLine := Nat.lt_of_le_of_lt h (by decide)
theorem same_write8 {H H1 : Hp} {l : Addr} {o : HO} (s : Same H H1) (hl : H l = none) : Same H (upd H1 l o) := fun b u e => by rw [upd_ne (ne_of_none e hl)]; exact s b u e
theorem sc_cnt : FnScope ["_law_sides", "_law_good", "_law_n", "_law_rows", "_law_turn", "_law_longer", "_law_won"] ["_law_sides", "_law_good", "_law_n"] (defScope s_cnt) := ⟨rfl, rfl, rfl, by decide +kernel, rfl, by decide +kernel, by decide +kernel⟩
theorem ok_cnt {f : Addr} {fd : FuncData} (F : Fun K "_law_counts" "_law_counts" s_cnt f fd) (T : Txt mg) : FnOk P w K mg base CX0 1 f fd ["_law_sides", "_law_good", "_law_n"] spCnt := by
  refine F.ok sc_cnt (fun vs H Q E h => ?_) (fun cdv A outer s H vs Q E hr h => ?_)
  · obtain ⟨s, g, n, rfl, _⟩ := h
    rfl
  obtain ⟨sd, gd, n, rfl, s1, s5, hg, hn, hp, q⟩ := h
  refine ⟨_, (pss_cons (ps_set (i := 3) sc_cnt.nd rfl (Or.inr rfl) (pe_lst (pa_cons pe_int pa_nil)))
    (pss_cons (ps_for PassesOwn.never rfl (pi_range1 rfl T.range (pa_cons (pv 2) pa_nil)) (pg_name (i := 4) sc_cnt.nd rfl (Or.inl rfl)) (pss_cons (ps_set (i := 5) sc_cnt.nd rfl (Or.inl rfl) (pe_lst pa_nil))
      (pss_cons (ps_for PassesOwn.never rfl (pi_list (pv 3)) (pg_name (i := 6) sc_cnt.nd rfl (Or.inr rfl)) (pss_one (ps_expr (pe_bm PySem.F.plainAttrs_list PySem.F.slot_list_extend PySem.F.type_list_extend mt_extend (pv 5) (pa_cons (pe_comp (ts := [("_law_won", 6), ("_law_good", 1)]) rfl ⟨rfl, sub2 rfl rfl, rfl, rfl, rfl, rfl, by decide +kernel, rfl, rfl⟩ (pi_range1 rfl T.range (pa_cons (pv 0) pa_nil)) (fun C s3 H3 fp => (pe_op op_add (pv 1) (pe_callTy call_int1 rfl T.int boot_int (pa_cons (pe_cmpR op_lt (pv 0) (pv 2) (nomark _)) pa_nil))))) pa_nil)))))
      (pss_one (ps_set (i := 3) sc_cnt.nd rfl (Or.inr rfl) (pv 5))))))
    (pss_one (ps_ret (pe_compN (x := "_law_k") (ts := [("_law_rows", 3)]) rfl ⟨rfl, sub1 rfl, fun _ => rfl, rfl, rfl, by decide +kernel, rfl, rfl⟩ (pi_range1 rfl T.range (pa_cons (pe_op op_add (pv 2) pe_int) pa_nil)) (fun C s3 H3 fp => (pg_name (i := 0) (show (["_law_k", "_law_rows"] : List Str).Nodup by decide +kernel) rfl (Or.inr rfl) (Or.inl cxN_fn))) (fun C s3 H3 fp => pif_nil) (fun C s3 H3 fp => (pe_callB call_len_seqN rfl T.len boot_len (pa_cons (pe_compG (xs := ["_law_won"]) (ts := [("_law_k", 0)]) rfl ⟨rfl, sub1 rfl, rfl, rfl, rfl, by decide +kernel, rfl, rfl⟩ (pi_listN (pv 1)) (fun C s3 H3 fp => (pg_name (i := 0) (show (["_law_won", "_law_k"] : List Str).Nodup by decide +kernel) rfl (Or.inl rfl) (Or.inr rfl))) (fun C s3 H3 fp => (pif_one (pt_cmpR op_eq (pv 0) (pv 1) (nomark _)))) (fun C s3 H3 fp => (pv 0))) pa_nil)))))))), ?_⟩
  have one : 1 ≤ sizeLine := by decide
  refine ⟨one, fun L0 hL0 => ?_⟩
  have w0 := same_new hL0 (.lst [V.int 0])
  have pm : ∀ i, i ≤ n → sd ^ i ≤ 1024 := fun i hi => Nat.le_trans (Nat.pow_le_pow_right s1 hi) hp
  refine ⟨_, rfl, _, rfl, by omega, by omega, ?_⟩
  have en : ((n : Int)).toNat = n := rfl
  rw [en]
  refine for_range (lo := 0) (fun i σ G => Same H G ∧ ∃ (L : Addr) (v4 v5 v6 : Option V), σ = [some (.int sd), some (.int gd), some (.int n), some (.ref L), v4, v5, v6] ∧ G L = some (.lst ((rows8 sd gd i).map V.int))) ⟨w0, L0, none, none, none, rfl, upd_same⟩ ?_ ?_
  · rintro i σ G hi ⟨sm, L, v4, v5, v6, rfl, hL⟩
    have lr := rows_len sd gd i
    have pi' := pm (i + 1) (by omega)
    refine ⟨Nat.zero_le _, fun M hM => ?_⟩
    have wM := same_new hM (.lst [])
    have xM : upd G M (.lst []) M = some (.lst []) := upd_same
    generalize upd G M (.lst []) = G1 at *
    refine ⟨_, rfl, L, rfl, ⟨_, SqL.of (wM _ _ hL)⟩, ?_⟩
    refine for_list (xs := (rows8 sd gd i).map V.int) (fun j σ J => Same G J ∧ ∃ (v6 : Option V), σ = [some (.int sd), some (.int gd), some (.int n), some (.ref L), some (.int (0 + (i : Int))), some (.ref M), v6] ∧ J M = some (.lst ((stp8 sd gd ((rows8 sd gd i).take j)).map V.int))) ⟨wM, _, rfl, xM⟩ (fun j σ J _ h => SqL.of (h.1 _ _ hL)) ?_ ?_
    · rintro j x σ J hx ⟨sJ, v6', rfl, hMJ⟩
      have hj : j < (rows8 sd gd i).length := by have := (List.getElem?_eq_some_iff.mp hx).1; simpa using this
      have ev := List.getElem?_eq_getElem hj
      rw [List.getElem?_map, ev] at hx
      have hx' : V.int (rows8 sd gd i)[j] = x := by simpa using hx
      subst hx'
      have tk : (rows8 sd gd i).take (j + 1) = (rows8 sd gd i).take j ++ [(rows8 sd gd i)[j]] := by rw [List.take_add_one, ev]; rfl
      have ll : (stp8 sd gd ((rows8 sd gd i).take j)).length + sd ≤ 1024 := by
        rw [stp_len8, List.length_take_of_le (by omega)]
        have : sd * j + sd = sd * (j + 1) := (Nat.mul_succ ..).symm
        rw [this]
        refine Nat.le_trans (Nat.mul_le_mul_left sd (show j + 1 ≤ sd ^ i by omega)) ?_
        rw [Nat.mul_comm, ← Nat.pow_succ]
        exact pi'
      generalize (rows8 sd gd i)[j] = v at *
      refine ⟨_, rfl, .inl ⟨rfl, _, SqL.of hMJ⟩, _, rfl, _, rfl, by omega, by omega, fun D hD => ?_⟩
      have es : ((sd : Int)).toNat = sd := rfl
      rw [es]
      refine comp_range (fun m => V.int (v + (if (m : Int) < (gd : Int) then 1 else 0))) hD (Nat.le_of_lt (lt40 (by omega))) ?_ ?_
      · intro m J2 k hm s2 hk
        rw [Int.zero_add]
        refine ⟨_, rfl, _, rfl, _, rfl, _, _, rfl, rfl, .inr ⟨_, rfl, _, _, rfl, rfl, ?_⟩⟩
        have : (if decide ((m : Int) < (gd : Int)) = true then (1 : Int) else 0) = if (m : Int) < (gd : Int) then 1 else 0 := by simp
        show k (V.int (v + (if decide ((m : Int) < (gd : Int)) = true then (1 : Int) else 0))) J2
        rw [this]
        exact hk J2 (Same.refl J2)
      intro J2 s2 hD2
      refine ⟨M, D, _, _, rfl, rfl, s2 _ _ hMJ, hD2, Nat.le_of_lt (lt40 (by simp; omega)), ?_⟩
      refine ⟨same_write8 (sJ.trans s2) hM, _, rfl, ?_⟩
      rw [upd_same, tk, stp_snoc8, List.map_append]
      unfold turn8
      rw [List.map_map]
      rfl
    · rintro σ J ⟨sJ, v6', rfl, hMJ⟩
      rw [List.length_map, List.take_length] at hMJ
      exact ⟨_, rfl, sm.trans sJ, M, _, _, _, rfl, hMJ⟩
  · rintro σ G ⟨sm, L, v4, v5, v6, rfl, hL⟩
    have lr := rows_len sd gd n
    refine ⟨_, rfl, _, _, rfl, rfl, _, rfl, by omega, by omega, fun D hD => ?_⟩
    have e1 : ((n : Int) + 1).toNat = n + 1 := rfl
    rw [e1]
    refine comp_rangeG (fun m => V.int (cN sd gd n m)) hD (Nat.le_of_lt (lt40 (by omega))) ?_ ?_
    · intro m J k hm sJ hk
      rw [Int.zero_add]
      refine ⟨_, rfl, L, rfl, ⟨_, SqL.of (sJ _ _ hL)⟩, fun D2 hD2 => ?_⟩
      refine comp_listC (K := K) (rows8 sd gd n) (fun t => decide (t = (m : Int))) (fun t u => u = V.int t) hD2 (SqL.of (sJ _ _ hL)) (List.length_map ..) (Nat.le_of_lt (lt40 (by rw [List.length_map]; omega))) (fun i h e => ⟨_, by rw [List.getElem?_map, e]; rfl, rfl⟩) (fun t u J2 k2 hu s2 hk2 => ?_) (fun t u J2 k2 hu s2 hk2 => ⟨_, rfl, hk2 _ J2 (Same.refl J2)⟩) fun J3 ys s3 hD3 ly => ?_
      · subst hu
        refine ⟨_, rfl, _, rfl, rfl, _, rfl, ?_⟩
        have ed : decide (V.int t = V.int (m : Int)) = decide (t = (m : Int)) := decide_eq_decide.mpr ⟨fun h => by injection h, fun h => by rw [h]⟩
        show k2 (decide (V.int t = V.int (m : Int))) J2
        rw [ed]
        exact hk2 J2 (Same.refl J2)
      refine ⟨D2, ys, rfl, .inl (SqL.of hD3), ?_⟩
      have : ((ys.length : Nat) : Int) = cN sd gd n m := by
        rw [ly, ← ct_rows hg]
        rfl
      rw [this]
      exact hk J3 s3
    · intro J sJ hDJ
      exact q D J (sm.trans sJ) (by rw [hDJ, List.map_map]; rfl)
open Ec
theorem den_same {H : Hp} {x y : Addr} {r s : Rat} (e : r = s) (h1 : H x = some (.tup [.int r.num, .int (r.den : Int)])) (h2 : H y = some (.tup [.int s.num, .int (s.den : Int)])) :
    Den H (.tup [.int r.num, .int (r.den : Int)]) (.ref x) ∧ Den H (.tup [.int r.num, .int (r.den : Int)]) (.ref y) ∧ depT (.tup [.int r.num, .int (r.den : Int)]) ≤ 60 := by
  subst e
  exact ⟨den_p h1, den_p h2, by simp [depT, depTs]⟩
theorem cut_mid {xs : List Int} {i j : Nat} (hi : i ≤ xs.length) (hj : j ≤ xs.length) : cutV (xs.map V.int) (some (i : Int)) (some (j : Int)) = ((xs.drop i).take (j - i)).map V.int := by
  unfold cutV
  rw [HT.sIx_nat, HT.sIx_nat, Nat.min_eq_left (by rw [List.length_map]; exact hj), Nat.min_eq_left (by rw [List.length_map]; exact hi), List.map_take, List.map_drop]
theorem drop_rng (f : Nat → Int) {i m : Nat} (h : i ≤ m) : ((List.range m).map f).drop i = (List.range (m - i)).map fun k => f (i + k) := by
  obtain ⟨d, rfl⟩ := Nat.exists_eq_add_of_le h
  rw [List.range_add, List.map_append, List.drop_left' (by simp), List.map_map, Nat.add_sub_cancel_left]
  rfl
theorem take_rng (f : Nat → Int) {i m : Nat} (h : i ≤ m) : ((List.range m).map f).take i = (List.range i).map f := by
  rw [← List.map_take, List.take_range, Nat.min_eq_left h]
theorem part_sum (f : Nat → Int) {i j m : Nat} (hi : i ≤ m) (hj : j ≤ m) : ((((List.range m).map f).drop i).take (j - i)).sum = ism f (max i j) - ism f i := by
  rw [drop_rng f hi, take_rng _ (show j - i ≤ m - i by omega), sum_range]
  congr 2
  omega
theorem cn_le {s g : Nat} (hg : g ≤ s) (n k : Nat) : 0 ≤ cN s g n k := by
  rw [← ct_rows hg]
  unfold ct
  omega
theorem ism_mono {f : Nat → Int} (h : ∀ k, 0 ≤ f k) (i : Nat) : ∀ d, ism f i ≤ ism f (i + d)
  | 0 => Int.le_refl _
  | d + 1 => by
    have := ism_mono h i d
    have := h (i + d)
    show ism f i ≤ ism f (i + d) + f (i + d)
    omega
noncomputable abbrev limL : List Int := [10, 6, 5, 4]
theorem lim_in {r : Nat} (h : r < 4) : 1 ≤ limL.getD r 0 ∧ limL.getD r 0 ≤ 10 ∧ (2 + r) ^ (limL.getD r 0).toNat ≤ 1024 := by
  match r, h with
  | 0, _ => decide
  | 1, _ => decide
  | 2, _ => decide
  | 3, _ => decide
theorem sz_pow {s n : Nat} (h : s ^ n ≤ 1024) : Sz 200 ((s : Int) ^ n) := by
  unfold Sz
  rw [show ((s : Int) ^ n) = ((s ^ n : Nat) : Int) by push_cast; rfl, Int.natAbs_natCast]
  exact Nat.lt_of_le_of_lt h (by decide)
noncomputable def spLaw (K : PySem.W.Frag) : Sp := fun vs H Q _ => ∃ (a : Addr) (ns : List Int), vs = [.ref a] ∧ SqL K H a (ns.map V.int) ∧ ns.length ≤ 63 ∧ (∀ i ∈ ns, Bg i) ∧ ∀ H', Q (.bl true) H'
theorem sc_law : FnScope ["_law_script", "_law_turn", "_law_cell", "_law_sides", "_law_good", "_law_n", "_law_counts_here", "_law_whole", "_law_p", "_law_k", "_law_i", "_law_j"] ["_law_script"] (defScope s_law) := ⟨rfl, rfl, rfl, by decide +kernel, rfl, by decide +kernel, by decide +kernel⟩
theorem ok_law {f : Addr} {fd : FuncData} (F : Fun K "law" "law" s_law f fd) (T : Txt mg) {fcell : Addr} {dcell : FuncData} (Gcell : FnOk P w K mg base CX0 5 fcell dcell ["_law_script", "_law_k"] (spCell K)) (bcell : Binds K dcell ["_law_script", "_law_k"] []) (kcell : PySem.W.keepIn K (.ref fcell) = true) (mcell : mg "_law_cell_at" = some (.ref fcell)) {fcnt : Addr} {dcnt : FuncData} (Gcnt : FnOk P w K mg base CX0 5 fcnt dcnt ["_law_sides", "_law_good", "_law_n"] spCnt) (bcnt : Binds K dcnt ["_law_sides", "_law_good", "_law_n"] []) (kcnt : PySem.W.keepIn K (.ref fcnt) = true) (mcnt : mg "_law_counts" = some (.ref fcnt)) {flow : Addr} {dlow : FuncData} (Glow : FnOk P w K mg base CX0 5 flow dlow ["_law_top", "_law_bottom"] spLow) (blow : Binds K dlow ["_law_top", "_law_bottom"] []) (klow : PySem.W.keepIn K (.ref flow) = true) (mlow : mg "_law_lowest" = some (.ref flow)) {fwgt : Addr} {dwgt : FuncData} (Gwgt : FnOk P w K mg base CX0 5 fwgt dwgt ["n", "k", "p"] spWgt) (bwgt : Binds K dwgt ["n", "k", "p"] []) (kwgt : PySem.W.keepIn K (.ref fwgt) = true) (mwgt : mg "weight" = some (.ref fwgt)) {frsum : Addr} {drsum : FuncData} (Grsum : FnOk P w K mg base CX0 5 frsum drsum ["n", "i", "j", "p"] spRsum) (brsum : Binds K drsum ["n", "i", "j", "p"] []) (krsum : PySem.W.keepIn K (.ref frsum) = true) (mrsum : mg "run_sum" = some (.ref frsum)) : FnOk P w K mg base CX0 6 f fd ["_law_script"] (spLaw K) := by
  refine F.ok sc_law (fun vs H Q E h => ?_) (fun cdv A outer s H vs Q E hr h => ?_)
  · obtain ⟨a, ns, rfl, _⟩ := h
    rfl
  obtain ⟨a, ns, rfl, hS, h63, hbg, q⟩ := h
  refine ⟨_, (pss_cons (ps_for PassesOwn.never rfl (pi_range1 rfl T.range (pa_cons pe_int pa_nil)) (pg_name (i := 1) sc_law.nd rfl (Or.inl rfl)) (pss_cons (ps_set (i := 2) sc_law.nd rfl (Or.inl rfl) (pe_call Gcell hr rfl mcell kcell bcell .nil pass0 (pa_cons (pv 0) (pa_cons (pe_op op_mul pe_int (pv 1)) pa_nil))))
      (pss_cons (ps_set (i := 3) sc_law.nd rfl (Or.inl rfl) (pe_op op_add pe_int (pe_op op_mod (pv 2) pe_int)))
      (pss_cons (ps_set (i := 4) sc_law.nd rfl (Or.inl rfl) (pe_op op_mod (pe_op op_fdiv (pv 2) pe_int) (pe_op op_add (pv 3) pe_int)))
      (pss_cons (ps_set (i := 5) sc_law.nd rfl (Or.inl rfl) (pe_op op_add pe_int (pe_op op_mod (pe_call Gcell hr rfl mcell kcell bcell .nil pass0 (pa_cons (pv 0) (pa_cons (pe_op op_add (pe_op op_mul pe_int (pv 1)) pe_int) pa_nil))) (pe_ix ix_list (pe_lst (pa_cons pe_int (pa_cons pe_int (pa_cons pe_int (pa_cons pe_int pa_nil))))) (pe_op op_mod (pv 2) pe_int) (fun _ _ => rfl)))))
      (pss_cons (ps_set (i := 6) sc_law.nd rfl (Or.inl rfl) (pe_call Gcnt hr rfl mcnt kcnt bcnt .nil pass0 (pa_cons (pv 3) (pa_cons (pv 4) (pa_cons (pv 5) pa_nil)))))
      (pss_cons (ps_set (i := 7) sc_law.nd rfl (Or.inl rfl) (pe_callB (call_sum rfl) rfl T.sum boot_sum (pa_cons (pv 6) pa_nil)))
      (pss_cons (ps_set (i := 8) sc_law.nd rfl (Or.inl rfl) (pe_call Glow hr rfl mlow klow blow .nil pass0 (pa_cons (pv 4) (pa_cons (pv 3) pa_nil))))
      (pss_cons (ps_for PassesOwn.never rfl (pi_range1 rfl T.range (pa_cons (pe_op op_add (pv 5) pe_int) pa_nil)) (pg_name (i := 9) sc_law.nd rfl (Or.inl rfl)) (pss_one (ps_if (pt_cmpR (op_neD hr.units) (pe_call Gwgt hr rfl mwgt kwgt bwgt .nil pass0 (pa_cons (pv 5) (pa_cons (pv 9) (pa_cons (pv 8) pa_nil)))) (pe_call Glow hr rfl mlow klow blow .nil pass0 (pa_cons (pe_ix ix_list (pv 6) (pv 9) (fun _ _ => rfl)) (pa_cons (pv 7) pa_nil))) (nomark _)) (pss_one (ps_ret pe_bl)) pss_nil)))
      (pss_cons (ps_set (i := 10) sc_law.nd rfl (Or.inl rfl) (pe_op op_mod (pe_op op_fdiv (pv 2) pe_int) (pe_op op_add (pv 5) pe_int)))
      (pss_cons (ps_set (i := 11) sc_law.nd rfl (Or.inl rfl) (pe_op op_mod (pe_op op_fdiv (pe_call Gcell hr rfl mcell kcell bcell .nil pass0 (pa_cons (pv 0) (pa_cons (pe_op op_add (pe_op op_mul pe_int (pv 1)) pe_int) pa_nil))) pe_int) (pe_op op_add (pv 5) pe_int)))
      (pss_one (ps_if (pt_cmpR (op_neD hr.units) (pe_call Grsum hr rfl mrsum krsum brsum .nil pass0 (pa_cons (pv 5) (pa_cons (pv 10) (pa_cons (pv 11) (pa_cons (pv 8) pa_nil))))) (pe_call Glow hr rfl mlow klow blow .nil pass0 (pa_cons (pe_callB (call_sum rfl) rfl T.sum boot_sum (pa_cons (pe_slice sl_list (pv 6) (po_some (pv 10)) (po_some (pe_op op_add (pv 11) pe_int))) pa_nil)) (pa_cons (pv 7) pa_nil))) (nomark _)) (pss_one (ps_ret pe_bl)) pss_nil)))))))))))))
    (pss_one (ps_ret pe_bl))), ?_⟩
  refine ⟨_, rfl, by omega, by omega, ?_⟩
  refine for_range (lo := 0) (fun i σ G => Same H G ∧ ∃ v1 v2 v3 v4 v5 v6 v7 v8 v9 v10 v11, σ = [some (.ref a), v1, v2, v3, v4, v5, v6, v7, v8, v9, v10, v11]) ⟨Same.refl H, none, none, none, none, none, none, none, none, none, none, none, rfl⟩ ?_ ?_
  · rintro t σ G ht ⟨sm, v1, v2, v3, v4, v5, v6, v7, v8, v9, v10, v11, rfl⟩
    refine ⟨_, rfl, _, rfl, _, _, rfl, rfl, .inl ⟨by decide, by decide⟩, a, ns, _, rfl, sm.seq hS, by omega, ?_⟩
    dsimp -proj only
    generalize ns.getD (2 * (0 + (t : Int))).toNat 0 = c
    have c0 := md0 c (show (0 : Int) < 4 by decide)
    have c1 := md1 c (show (0 : Int) < 4 by decide)
    refine ⟨_, rfl, _, _, rfl, rfl, (by show (0 : Int) < 4; decide), _, _, rfl, rfl, ?_⟩
    obtain ⟨sd, esd⟩ : ∃ sd : Nat, 2 + c % 4 = (sd : Int) := ⟨(2 + c % 4).toNat, by omega⟩
    dsimp -proj only
    rw [esd]
    have mp : (0 : Int) < (sd : Int) + 1 := by omega
    refine ⟨_, rfl, _, _, rfl, rfl, ⟨by decide, by decide⟩, _, rfl, _, _, rfl, rfl, _, _, rfl, rfl, mp, ?_⟩
    have g0 := md0 (c / 4) mp
    have g1 := md1 (c / 4) mp
    obtain ⟨gd, egd⟩ : ∃ gd : Nat, c / 4 % ((sd : Int) + 1) = (gd : Int) := ⟨(c / 4 % ((sd : Int) + 1)).toNat, by omega⟩
    dsimp -proj only
    rw [egd]
    obtain ⟨m1, m2, m3⟩ := lim_in (r := (c % 4).toNat) (by omega)
    have mpos : (0 : Int) < limL.getD (c % 4).toNat 0 := by omega
    refine ⟨_, rfl, _, rfl, _, _, rfl, rfl, .inl ⟨by decide, by decide⟩, _, _, rfl, rfl, a, ns, _, rfl, sm.seq hS, by omega, (by show 4 ≤ sizeLine; decide), fun p0 hp0 => ⟨_, rfl, _, _, rfl, rfl, (by show (0 : Int) < 4; decide), p0, _, _, _, rfl, rfl, SqL.of upd_same, at_getD (ns := limL) c0 c1, _, _, rfl, rfl, mpos, _, _, rfl, rfl, ?_⟩⟩
    have w0 := same_new hp0 (.lst [V.int 10, V.int 6, V.int 5, V.int 4])
    dsimp -proj only
    generalize ns.getD (2 * (0 + (t : Int)) + 1).toNat 0 = c2
    have n0 := md0 c2 mpos
    have n1 := md1 c2 mpos
    obtain ⟨n, en⟩ : ∃ n : Nat, 1 + c2 % limL.getD (c % 4).toNat 0 = (n : Int) := ⟨(1 + c2 % limL.getD (c % 4).toNat 0).toNat, by omega⟩
    rw [en]
    have hn : (n : Int) ≤ limL.getD (c % 4).toNat 0 := by omega
    have e2 : 2 + (c % 4).toNat = sd := by omega
    have hpow : sd ^ n ≤ 1024 := by
      rw [e2] at m3
      exact Nat.le_trans (Nat.pow_le_pow_right (by omega) (by omega)) m3
    clear m3 n0 n1 en
    generalize limL.getD (c % 4).toNat 0 = lim at *
    have sG := sm.trans w0
    generalize upd G p0 (.lst [V.int 10, V.int 6, V.int 5, V.int 4]) = G1 at *
    refine ⟨_, rfl, _, rfl, _, rfl, sd, gd, n, rfl, by omega, by omega, by omega, by omega, hpow, fun l G2 s2 hl => ?_⟩
    have hgs : gd ≤ sd := by omega
    have spos : 0 < sd := by omega
    refine ⟨_, rfl, l, _, rfl, SqL.of hl, ?_⟩
    rw [whole_cN spos hgs]
    have wpos : (0 : Int) < (sd : Int) ^ n := Int.pow_pos (by omega)
    have szw := sz_pow hpow
    refine ⟨_, rfl, _, rfl, (gd : Int), (sd : Int), rfl, by omega, by omega, (by unfold Sz; exact Nat.lt_of_le_of_lt (show ((sd : Int)).natAbs ≤ 5 by omega) (by decide)), fun a1 G3 s3 h1 shp => ?_⟩
    have hp := shp (by omega)
    have pe : rq (gd : Int) (sd : Int) * (sd : Rat) = (gd : Rat) := by
      have := rq_mul8 (t := (gd : Int)) (b := (sd : Int)) (by omega)
      exact_mod_cast this
    generalize rq (gd : Int) (sd : Int) = p at *
    have hl3 := s3 _ _ hl
    have S3 := sG.trans (s2.trans s3)
    refine ⟨_, rfl, _, _, rfl, rfl, _, rfl, by omega, by omega, ?_⟩
    have e1 : ((n : Int) + 1).toNat = n + 1 := rfl
    rw [e1]
    refine for_range (lo := 0) (fun i σ J => Same G3 J ∧ ∃ v9 v10 v11, σ = [some (.ref a), some (.int (0 + (t : Int))), some (.int c), some (.int sd), some (.int gd), some (.int n), some (.ref l), some (.int ((sd : Int) ^ n)), some (.ref a1), v9, v10, v11]) ⟨Same.refl G3, _, _, _, rfl⟩ ?_ ?_
    · rintro k σ J hk ⟨sJ, v9', v10', v11', rfl⟩
      rw [Int.zero_add]
      refine ⟨_, rfl, _, rfl, _, rfl, n, k, a1, p, rfl, hp.keep sJ, by omega, by omega, fun f J1 t1 hf => ?_⟩
      have ek : ((((List.range (n + 1)).map fun k => cN sd gd n k).map V.int))[k]? = some (V.int (cN sd gd n k)) := by
        rw [List.getElem?_map, List.getElem?_map, List.getElem?_range hk]; rfl
      refine ⟨_, rfl, _, rfl, l, _, _, _, rfl, rfl, SqL.of ((sJ.trans t1) _ _ hl3), atI_nat ek, _, rfl, cN sd gd n k, (sd : Int) ^ n, rfl, cn_le hgs n k, wpos, szw, fun f2 J2 t2 hf2 _ => ?_⟩
      obtain ⟨d1, d2, d3⟩ := den_same (rq_is wpos (wt_cN pe n k)).symm (t2 _ _ hf) hf2
      refine ⟨_, d1, d2, d3, _, rfl, iteF ?_⟩
      exact ⟨sJ.trans (t1.trans t2), _, _, _, rfl⟩
    · rintro σ J ⟨sJ, v9', v10', v11', rfl⟩
      have mq : (0 : Int) < (n : Int) + 1 := by omega
      refine ⟨_, rfl, _, _, rfl, rfl, ⟨by decide, by decide⟩, _, rfl, _, _, rfl, rfl, _, _, rfl, rfl, mq, ?_⟩
      have i0 := md0 (c / 24) mq
      have i1 := md1 (c / 24) mq
      obtain ⟨i, ei⟩ : ∃ i : Nat, c / 24 % ((n : Int) + 1) = (i : Int) := ⟨(c / 24 % ((n : Int) + 1)).toNat, by omega⟩
      dsimp -proj only
      rw [ei]
      refine ⟨_, rfl, _, rfl, _, _, rfl, rfl, .inl ⟨by decide, by decide⟩, _, _, rfl, rfl, a, ns, _, rfl, (S3.trans sJ).seq hS, by omega, _, _, rfl, rfl, ⟨by decide, by decide⟩, _, rfl, _, _, rfl, rfl, _, _, rfl, rfl, mq, ?_⟩
      dsimp -proj only
      generalize ns.getD (2 * (0 + (t : Int)) + 1).toNat 0 = c3
      have j0 := md0 (c3 / 10) mq
      have j1 := md1 (c3 / 10) mq
      obtain ⟨j, ej⟩ : ∃ j : Nat, c3 / 10 % ((n : Int) + 1) = (j : Int) := ⟨(c3 / 10 % ((n : Int) + 1)).toNat, by omega⟩
      rw [ej]
      refine ⟨_, rfl, _, rfl, _, rfl, _, rfl, n, i, j, a1, p, rfl, hp.keep sJ, by omega, by omega, by omega, fun f J1 t1 hf => ?_⟩
      refine ⟨_, rfl, _, rfl, _, rfl, _, rfl, _, _, rfl, rfl, _, rfl, l, _, rfl, SqL.of ((sJ.trans t1) _ _ hl3), fun c5 h5 => ?_⟩
      have ec : cutV (((List.range (n + 1)).map fun k => cN sd gd n k).map V.int) (some (i : Int)) (some ((j : Int) + 1)) = (((((List.range (n + 1)).map fun k => cN sd gd n k).drop i).take (j + 1 - i)).map V.int) := cut_mid (i := i) (j := j + 1) (by simp; omega) (by simp; omega)
      dsimp -proj only
      rw [ec]
      have w5 := same_new h5 (.lst (((((List.range (n + 1)).map fun k => cN sd gd n k).drop i).take (j + 1 - i)).map V.int))
      refine ⟨c5, _, rfl, SqL.of upd_same, ?_⟩
      rw [part_sum (cN sd gd n) (show i ≤ n + 1 by omega) (show j + 1 ≤ n + 1 by omega)]
      have ge : 0 ≤ ism (cN sd gd n) (max i (j + 1)) - ism (cN sd gd n) i := by
        have := ism_mono (cn_le hgs n) i (max i (j + 1) - i)
        rw [show i + (max i (j + 1) - i) = max i (j + 1) by omega] at this
        omega
      refine ⟨_, rfl, _, (sd : Int) ^ n, rfl, ge, wpos, szw, fun f2 J2 t2 hf2 _ => ?_⟩
      obtain ⟨d1, d2, d3⟩ := den_same (rq_is wpos (rn_cN pe n i (max i (j + 1)))).symm ((w5.trans t2) _ _ hf) hf2
      refine ⟨_, d1, d2, d3, _, rfl, iteF ?_⟩
      exact ⟨(S3.trans (sJ.trans t1)).trans (w5.trans t2), _, _, _, _, _, _, _, _, _, _, _, rfl⟩
  · rintro σ G ⟨sm, v1, v2, v3, v4, v5, v6, v7, v8, v9, v10, v11, rfl⟩
    exact q _
end
theorem all_mk {l : PySem.W.OpenLaw} {w : World} {K : PySem.W.Frag} {h : Heap} {mg : Str → Option Value} {fa f_cho f_whole f_cd f_frac f_pow f_wtop f_wgt f_rsum f_cell f_cnt f_div f_low f_law : Addr} (X : K.In h) (G : h.Ns mainGlobals mg) (hfa : mg "law" = some (.ref fa))
    {od_cho an_cho : Option Addr} {sl_cho : Array (Option Value)} {oc_cho kV_cho dc_cho pm_cho cd_cho ct_cho : Value}
    (a_cho : PySem.W.nsIn K mainGlobals "choices" = some (some (.ref f_cho))) (l_cho : K.lookup f_cho = some ⟨oc_cho, od_cho, .func (PySem.W.fnOf "choices" "choices" (defArgs s_cho) (defBody s_cho) (defScope s_cho) .none kV_cho dc_cho pm_cho an_cho cd_cho ct_cho), sl_cho⟩) (c_cho : PySem.W.codeIn K cd_cho "choices" = true) (k_cho : PySem.W.keepIn K (.ref f_cho) = true)
    {od_whole an_whole : Option Addr} {sl_whole : Array (Option Value)} {oc_whole kV_whole dc_whole pm_whole cd_whole ct_whole : Value}
    (a_whole : PySem.W.nsIn K mainGlobals "is_whole" = some (some (.ref f_whole))) (l_whole : K.lookup f_whole = some ⟨oc_whole, od_whole, .func (PySem.W.fnOf "is_whole" "is_whole" (defArgs s_whole) (defBody s_whole) (defScope s_whole) .none kV_whole dc_whole pm_whole an_whole cd_whole ct_whole), sl_whole⟩) (c_whole : PySem.W.codeIn K cd_whole "is_whole" = true) (k_whole : PySem.W.keepIn K (.ref f_whole) = true)
    {od_cd an_cd : Option Addr} {sl_cd : Array (Option Value)} {oc_cd kV_cd dc_cd pm_cd cd_cd ct_cd : Value}
    (a_cd : PySem.W.nsIn K mainGlobals "common_divisor" = some (some (.ref f_cd))) (l_cd : K.lookup f_cd = some ⟨oc_cd, od_cd, .func (PySem.W.fnOf "common_divisor" "common_divisor" (defArgs s_cd) (defBody s_cd) (defScope s_cd) .none kV_cd dc_cd pm_cd an_cd cd_cd ct_cd), sl_cd⟩) (c_cd : PySem.W.codeIn K cd_cd "common_divisor" = true) (k_cd : PySem.W.keepIn K (.ref f_cd) = true)
    {od_frac an_frac : Option Addr} {sl_frac : Array (Option Value)} {oc_frac kV_frac dc_frac pm_frac cd_frac ct_frac : Value}
    (a_frac : PySem.W.nsIn K mainGlobals "fraction" = some (some (.ref f_frac))) (l_frac : K.lookup f_frac = some ⟨oc_frac, od_frac, .func (PySem.W.fnOf "fraction" "fraction" (defArgs s_frac) (defBody s_frac) (defScope s_frac) .none kV_frac dc_frac pm_frac an_frac cd_frac ct_frac), sl_frac⟩) (c_frac : PySem.W.codeIn K cd_frac "fraction" = true) (k_frac : PySem.W.keepIn K (.ref f_frac) = true)
    {od_pow an_pow : Option Addr} {sl_pow : Array (Option Value)} {oc_pow kV_pow dc_pow pm_pow cd_pow ct_pow : Value}
    (a_pow : PySem.W.nsIn K mainGlobals "power" = some (some (.ref f_pow))) (l_pow : K.lookup f_pow = some ⟨oc_pow, od_pow, .func (PySem.W.fnOf "power" "power" (defArgs s_pow) (defBody s_pow) (defScope s_pow) .none kV_pow dc_pow pm_pow an_pow cd_pow ct_pow), sl_pow⟩) (c_pow : PySem.W.codeIn K cd_pow "power" = true) (k_pow : PySem.W.keepIn K (.ref f_pow) = true)
    {od_wtop an_wtop : Option Addr} {sl_wtop : Array (Option Value)} {oc_wtop kV_wtop dc_wtop pm_wtop cd_wtop ct_wtop : Value}
    (a_wtop : PySem.W.nsIn K mainGlobals "weight_top" = some (some (.ref f_wtop))) (l_wtop : K.lookup f_wtop = some ⟨oc_wtop, od_wtop, .func (PySem.W.fnOf "weight_top" "weight_top" (defArgs s_wtop) (defBody s_wtop) (defScope s_wtop) .none kV_wtop dc_wtop pm_wtop an_wtop cd_wtop ct_wtop), sl_wtop⟩) (c_wtop : PySem.W.codeIn K cd_wtop "weight_top" = true) (k_wtop : PySem.W.keepIn K (.ref f_wtop) = true)
    {od_wgt an_wgt : Option Addr} {sl_wgt : Array (Option Value)} {oc_wgt kV_wgt dc_wgt pm_wgt cd_wgt ct_wgt : Value}
    (a_wgt : PySem.W.nsIn K mainGlobals "weight" = some (some (.ref f_wgt))) (l_wgt : K.lookup f_wgt = some ⟨oc_wgt, od_wgt, .func (PySem.W.fnOf "weight" "weight" (defArgs s_wgt) (defBody s_wgt) (defScope s_wgt) .none kV_wgt dc_wgt pm_wgt an_wgt cd_wgt ct_wgt), sl_wgt⟩) (c_wgt : PySem.W.codeIn K cd_wgt "weight" = true) (k_wgt : PySem.W.keepIn K (.ref f_wgt) = true)
    {od_rsum an_rsum : Option Addr} {sl_rsum : Array (Option Value)} {oc_rsum kV_rsum dc_rsum pm_rsum cd_rsum ct_rsum : Value}
    (a_rsum : PySem.W.nsIn K mainGlobals "run_sum" = some (some (.ref f_rsum))) (l_rsum : K.lookup f_rsum = some ⟨oc_rsum, od_rsum, .func (PySem.W.fnOf "run_sum" "run_sum" (defArgs s_rsum) (defBody s_rsum) (defScope s_rsum) .none kV_rsum dc_rsum pm_rsum an_rsum cd_rsum ct_rsum), sl_rsum⟩) (c_rsum : PySem.W.codeIn K cd_rsum "run_sum" = true) (k_rsum : PySem.W.keepIn K (.ref f_rsum) = true)
    {od_cell an_cell : Option Addr} {sl_cell : Array (Option Value)} {oc_cell kV_cell dc_cell pm_cell cd_cell ct_cell : Value}
    (a_cell : PySem.W.nsIn K mainGlobals "_law_cell_at" = some (some (.ref f_cell))) (l_cell : K.lookup f_cell = some ⟨oc_cell, od_cell, .func (PySem.W.fnOf "_law_cell_at" "_law_cell_at" (defArgs s_cell) (defBody s_cell) (defScope s_cell) .none kV_cell dc_cell pm_cell an_cell cd_cell ct_cell), sl_cell⟩) (c_cell : PySem.W.codeIn K cd_cell "_law_cell_at" = true) (k_cell : PySem.W.keepIn K (.ref f_cell) = true)
    {od_cnt an_cnt : Option Addr} {sl_cnt : Array (Option Value)} {oc_cnt kV_cnt dc_cnt pm_cnt cd_cnt ct_cnt : Value}
    (a_cnt : PySem.W.nsIn K mainGlobals "_law_counts" = some (some (.ref f_cnt))) (l_cnt : K.lookup f_cnt = some ⟨oc_cnt, od_cnt, .func (PySem.W.fnOf "_law_counts" "_law_counts" (defArgs s_cnt) (defBody s_cnt) (defScope s_cnt) .none kV_cnt dc_cnt pm_cnt an_cnt cd_cnt ct_cnt), sl_cnt⟩) (c_cnt : PySem.W.codeIn K cd_cnt "_law_counts" = true) (k_cnt : PySem.W.keepIn K (.ref f_cnt) = true)
    {od_div an_div : Option Addr} {sl_div : Array (Option Value)} {oc_div kV_div dc_div pm_div cd_div ct_div : Value}
    (a_div : PySem.W.nsIn K mainGlobals "_law_divides" = some (some (.ref f_div))) (l_div : K.lookup f_div = some ⟨oc_div, od_div, .func (PySem.W.fnOf "_law_divides" "_law_divides" (defArgs s_div) (defBody s_div) (defScope s_div) .none kV_div dc_div pm_div an_div cd_div ct_div), sl_div⟩) (c_div : PySem.W.codeIn K cd_div "_law_divides" = true) (k_div : PySem.W.keepIn K (.ref f_div) = true)
    {od_low an_low : Option Addr} {sl_low : Array (Option Value)} {oc_low kV_low dc_low pm_low cd_low ct_low : Value}
    (a_low : PySem.W.nsIn K mainGlobals "_law_lowest" = some (some (.ref f_low))) (l_low : K.lookup f_low = some ⟨oc_low, od_low, .func (PySem.W.fnOf "_law_lowest" "_law_lowest" (defArgs s_low) (defBody s_low) (defScope s_low) .none kV_low dc_low pm_low an_low cd_low ct_low), sl_low⟩) (c_low : PySem.W.codeIn K cd_low "_law_lowest" = true) (k_low : PySem.W.keepIn K (.ref f_low) = true)
    {od_law an_law : Option Addr} {sl_law : Array (Option Value)} {oc_law kV_law dc_law pm_law cd_law ct_law : Value}
    (a_law : PySem.W.nsIn K mainGlobals "law" = some (some (.ref f_law))) (l_law : K.lookup f_law = some ⟨oc_law, od_law, .func (PySem.W.fnOf "law" "law" (defArgs s_law) (defBody s_law) (defScope s_law) .none kV_law dc_law pm_law an_law cd_law ct_law), sl_law⟩) (c_law : PySem.W.codeIn K cd_law "law" = true) (k_law : PySem.W.keepIn K (.ref f_law) = true)
    (z_range : PySem.W.nsIn K mainGlobals "range" = some none) (z_min : PySem.W.nsIn K mainGlobals "min" = some none) (z_len : PySem.W.nsIn K mainGlobals "len" = some none) (z_isinstance : PySem.W.nsIn K mainGlobals "isinstance" = some none) (z_int : PySem.W.nsIn K mainGlobals "int" = some none) (z_bool : PySem.W.nsIn K mainGlobals "bool" = some none) (z_tuple : PySem.W.nsIn K mainGlobals "tuple" = some none) (z_abs : PySem.W.nsIn K mainGlobals "abs" = some none) (z_all : PySem.W.nsIn K mainGlobals "all" = some none) (z_sum : PySem.W.nsIn K mainGlobals "sum" = some none)
    {d_StretchError d_NoNumber : Addr}
    (n_StretchError : PySem.W.nsIn K mainGlobals "StretchError" = some (some (.ref d_StretchError)))
    (n_NoNumber : PySem.W.nsIn K mainGlobals "NoNumber" = some (some (.ref d_NoNumber)))
    (x_NoNumber : PySem.W.excIn K d_NoNumber vbm "ValueError.__new__" = true)
    (ic_NoNumber : PySem.W.isClsIn K d_NoNumber = true)
    (ga_NoNumber : PySem.W.findIn K (.ref d_NoNumber) "__getattribute__" = some (some (.builtin "BaseException.__getattribute__")))
    (gt_NoNumber : PySem.W.findIn K (.ref d_NoNumber) "__getattr__" = some none)
    (cl_NoNumber : PySem.W.findIn K (.ref d_NoNumber) "__class__" = some (some (.builtin "object.__class__")))
    (sg_NoNumber : PySem.W.specialIn K (.builtin "object.__class__") "__get__" = some (some (.builtin "getset_descriptor.__get__")))
    (tk_NoNumber : PySem.W.takesIn K (.builtin "object.__class__") = some true)
    (ob_NoNumber : PySem.W.mroIn K d_NoNumber (.type "object") = some true)
    (be_NoNumber : PySem.W.mroIn K d_NoNumber (.type "BaseException") = some true) :
    ∃ fd : FuncData, (∀ (s : Shared) (v : Value), BindsTo s fd ⟨[v], []⟩ [("_law_script", v)]) ∧ ∀ base : Heap, K.In base → base.Ns mainGlobals mg → FnOk l.prog w K mg base CX0 6 fa fd ["_law_script"] (spLaw K) := by
  have e := hfa.symm.trans (PySem.W.mg_of X G a_law)
  cases e
  have T : Txt mg := ⟨PySem.W.mg_none_of X G z_range, PySem.W.mg_none_of X G z_min, PySem.W.mg_none_of X G z_len, PySem.W.mg_none_of X G z_isinstance, PySem.W.mg_none_of X G z_int, PySem.W.mg_none_of X G z_bool, PySem.W.mg_none_of X G z_tuple, PySem.W.mg_none_of X G z_abs, PySem.W.mg_none_of X G z_all, PySem.W.mg_none_of X G z_sum⟩
  have cf : CF K mg ⟨d_StretchError, d_NoNumber⟩ := ⟨PySem.W.mg_of X G n_StretchError, PySem.W.mg_of X G n_NoNumber, ⟨PySem.W.mg_of X G n_NoNumber, x_NoNumber⟩, ⟨ga_NoNumber, gt_NoNumber, cl_NoNumber, sg_NoNumber, tk_NoNumber, ob_NoNumber, be_NoNumber, ic_NoNumber⟩⟩
  have F_cho := fun_mk (st := s_cho) l_cho c_cho k_cho
  have b_cho := F_cho.binds (ps := ["n", "k"]) fun _ _ _ _ _ _ us hl => match us, hl with | [_, _], _ => rfl
  have m_cho := PySem.W.mg_of X G a_cho
  have F_whole := fun_mk (st := s_whole) l_whole c_whole k_whole
  have b_whole := F_whole.binds (ps := ["thing"]) fun _ _ _ _ _ _ us hl => match us, hl with | [_], _ => rfl
  have m_whole := PySem.W.mg_of X G a_whole
  have F_cd := fun_mk (st := s_cd) l_cd c_cd k_cd
  have b_cd := F_cd.binds (ps := ["one", "other"]) fun _ _ _ _ _ _ us hl => match us, hl with | [_, _], _ => rfl
  have m_cd := PySem.W.mg_of X G a_cd
  have F_frac := fun_mk (st := s_frac) l_frac c_frac k_frac
  have b_frac := F_frac.binds (ps := ["top", "bottom"]) fun _ _ _ _ _ _ us hl => match us, hl with | [_, _], _ => rfl
  have m_frac := PySem.W.mg_of X G a_frac
  have F_pow := fun_mk (st := s_pow) l_pow c_pow k_pow
  have b_pow := F_pow.binds (ps := ["base", "count"]) fun _ _ _ _ _ _ us hl => match us, hl with | [_, _], _ => rfl
  have m_pow := PySem.W.mg_of X G a_pow
  have F_wtop := fun_mk (st := s_wtop) l_wtop c_wtop k_wtop
  have b_wtop := F_wtop.binds (ps := ["n", "k", "p"]) fun _ _ _ _ _ _ us hl => match us, hl with | [_, _, _], _ => rfl
  have m_wtop := PySem.W.mg_of X G a_wtop
  have F_wgt := fun_mk (st := s_wgt) l_wgt c_wgt k_wgt
  have b_wgt := F_wgt.binds (ps := ["n", "k", "p"]) fun _ _ _ _ _ _ us hl => match us, hl with | [_, _, _], _ => rfl
  have m_wgt := PySem.W.mg_of X G a_wgt
  have F_rsum := fun_mk (st := s_rsum) l_rsum c_rsum k_rsum
  have b_rsum := F_rsum.binds (ps := ["n", "i", "j", "p"]) fun _ _ _ _ _ _ us hl => match us, hl with | [_, _, _, _], _ => rfl
  have m_rsum := PySem.W.mg_of X G a_rsum
  have F_cell := fun_mk (st := s_cell) l_cell c_cell k_cell
  have b_cell := F_cell.binds (ps := ["_law_script", "_law_k"]) fun _ _ _ _ _ _ us hl => match us, hl with | [_, _], _ => rfl
  have m_cell := PySem.W.mg_of X G a_cell
  have F_cnt := fun_mk (st := s_cnt) l_cnt c_cnt k_cnt
  have b_cnt := F_cnt.binds (ps := ["_law_sides", "_law_good", "_law_n"]) fun _ _ _ _ _ _ us hl => match us, hl with | [_, _, _], _ => rfl
  have m_cnt := PySem.W.mg_of X G a_cnt
  have F_div := fun_mk (st := s_div) l_div c_div k_div
  have b_div := F_div.binds (ps := ["_law_one", "_law_other"]) fun _ _ _ _ _ _ us hl => match us, hl with | [_, _], _ => rfl
  have m_div := PySem.W.mg_of X G a_div
  have F_low := fun_mk (st := s_low) l_low c_low k_low
  have b_low := F_low.binds (ps := ["_law_top", "_law_bottom"]) fun _ _ _ _ _ _ us hl => match us, hl with | [_, _], _ => rfl
  have m_low := PySem.W.mg_of X G a_low
  have F_law := fun_mk (st := s_law) l_law c_law k_law
  have b_law := F_law.binds (ps := ["_law_script"]) fun _ _ _ _ _ _ us hl => match us, hl with | [_], _ => rfl
  have m_law := PySem.W.mg_of X G a_law
  refine ⟨PySem.W.fnOf "law" "law" (defArgs s_law) (defBody s_law) (defScope s_law) .none kV_law dc_law pm_law an_law cd_law ct_law, fun s v => .of_eq rfl, fun base _ _ => ?_⟩
  have G_cell := ok_cell (P := l.prog) (w := w) (base := base) F_cell T
  have G_cnt := ok_cnt (P := l.prog) (w := w) (base := base) F_cnt T
  have G_div := ok_div (P := l.prog) (w := w) (base := base) F_div T
  have G_low := ok_low (P := l.prog) (w := w) (base := base) F_low T (G_div.mono (by decide)) b_div k_div m_div
  have G_cho := ok_cho (P := l.prog) (w := w) (base := base) F_cho T
  have G_pow := ok_pow (P := l.prog) (w := w) (base := base) F_pow T
  have G_wtop := ok_wtop (P := l.prog) (w := w) (base := base) F_wtop T (G_cho.mono (by decide)) b_cho k_cho m_cho (G_pow.mono (by decide)) b_pow k_pow m_pow
  have G_whole := ok_whole (P := l.prog) (w := w) (base := base) F_whole T
  have G_cd := ok_cd (P := l.prog) (w := w) (base := base) F_cd T
  have G_frac := ok_frac (P := l.prog) (w := w) (base := base) F_frac T cf (G_whole.mono (by decide)) b_whole k_whole m_whole (G_cd.mono (by decide)) b_cd k_cd m_cd
  have G_wgt := ok_wgt (P := l.prog) (w := w) (base := base) F_wgt T (G_wtop.mono (by decide)) b_wtop k_wtop m_wtop (G_pow.mono (by decide)) b_pow k_pow m_pow (G_frac.mono (by decide)) b_frac k_frac m_frac
  have G_rsum := ok_rsum (P := l.prog) (w := w) (base := base) F_rsum T (G_wtop.mono (by decide)) b_wtop k_wtop m_wtop (G_pow.mono (by decide)) b_pow k_pow m_pow (G_frac.mono (by decide)) b_frac k_frac m_frac
  exact ok_law F_law T (G_cell.mono (by decide)) b_cell k_cell m_cell (G_cnt.mono (by decide)) b_cnt k_cnt m_cnt (G_low.mono (by decide)) b_low k_low m_low (G_wgt.mono (by decide)) b_wgt k_wgt m_wgt (G_rsum.mono (by decide)) b_rsum k_rsum m_rsum
theorem walk {l : PySem.W.OpenLaw} {q : Program} {loose : List Str} {XP : (Str → Option Value) → Heap → Prop} {YP : World → Heap → Prop} {d : DefRec} {K : Params → PySem.W.Frag} (hn : l.most = some 63) (hdf : d.params.defaults = [])
    (hY : ∀ (w : World) (h : Heap), YP w h → (K w.params).In h)
    (F : ∀ (w : World) (mg : Str → Option Value) (fa : Addr) (h : Heap), (K w.params).In h → h.Ns mainGlobals mg → mg d.name = some (.ref fa) →
      ∃ fd : FuncData, (∀ (s : Shared) (u : Value), BindsTo s fd ⟨[u], []⟩ [("_law_script", u)]) ∧ ∀ base : Heap, (K w.params).In base → base.Ns mainGlobals mg → FnOk l.prog w (K w.params) mg base CX0 6 fa fd ["_law_script"] (spLaw (K w.params))) :
    PySem.W.WalkO q loose XP YP l.row.toRowW d [] (fun f vs => PySem.call f vs) :=
  L2.walk_ofB (n := 63) (k := 6) (x := "_law_script") (CX := fun _ => CX0) (sp := fun w => spLaw (K w.params)) hn (by decide) hdf ⟨rfl, by decide, by decide⟩ hY F (fun _ _ a ns hl hb _ hS => ⟨a, ns, rfl, hS, hl, hb, fun _ => rfl⟩) fun _ _ _ _ _ z => z
end K8
open PySem PySem.W PyProof.Rows
set_option maxRecDepth 100000 in
set_option maxHeartbeats 0 in
theorem PySem.Challenge.cw_surestretch_k08_whole_all_rows_of_trials_holds : PySem.Challenge.rw_surestretch_k08_whole_all_rows_of_trials.Holds := by
  w_on; o_law; k_head; (case hw => w_witness2)
  k_fill
  refine K8.walk (l := PySem.Challenge.rw_surestretch_k08_whole_all_rows_of_trials) rfl rfl (fun w h Y => PySem.W.kIn_of Y) ?F
  case F =>
    intro w mg fa h KX G hmg
    refine' K8.all_mk KX G hmg ?a_cho ?l_cho ?c_cho ?k_cho ?a_whole ?l_whole ?c_whole ?k_whole ?a_cd ?l_cd ?c_cd ?k_cd ?a_frac ?l_frac ?c_frac ?k_frac ?a_pow ?l_pow ?c_pow ?k_pow ?a_wtop ?l_wtop ?c_wtop ?k_wtop ?a_wgt ?l_wgt ?c_wgt ?k_wgt ?a_rsum ?l_rsum ?c_rsum ?k_rsum ?a_cell ?l_cell ?c_cell ?k_cell ?a_cnt ?l_cnt ?c_cnt ?k_cnt ?a_div ?l_div ?c_div ?k_div ?a_low ?l_low ?c_low ?k_low ?a_law ?l_law ?c_law ?k_law ?z_range ?z_min ?z_len ?z_isinstance ?z_int ?z_bool ?z_tuple ?z_abs ?z_all ?z_sum ?n_StretchError ?n_NoNumber ?x_NoNumber ?ic_NoNumber ?ga_NoNumber ?gt_NoNumber ?cl_NoNumber ?sg_NoNumber ?tk_NoNumber ?ob_NoNumber ?be_NoNumber
    (case a_cho => k_is); (case l_cho => k_is); (case c_cho => k_is); (case k_cho => k_is); (case a_whole => k_is); (case l_whole => k_is); (case c_whole => k_is); (case k_whole => k_is)
    (case a_cd => k_is); (case l_cd => k_is); (case c_cd => k_is); (case k_cd => k_is); (case a_frac => k_is); (case l_frac => k_is); (case c_frac => k_is); (case k_frac => k_is)
    (case a_pow => k_is); (case l_pow => k_is); (case c_pow => k_is); (case k_pow => k_is); (case a_wtop => k_is); (case l_wtop => k_is); (case c_wtop => k_is); (case k_wtop => k_is)
    (case a_wgt => k_is); (case l_wgt => k_is); (case c_wgt => k_is); (case k_wgt => k_is); (case a_rsum => k_is); (case l_rsum => k_is); (case c_rsum => k_is); (case k_rsum => k_is)
    (case a_cell => k_is); (case l_cell => k_is); (case c_cell => k_is); (case k_cell => k_is); (case a_cnt => k_is); (case l_cnt => k_is); (case c_cnt => k_is); (case k_cnt => k_is)
    (case a_div => k_is); (case l_div => k_is); (case c_div => k_is); (case k_div => k_is); (case a_low => k_is); (case l_low => k_is); (case c_low => k_is); (case k_low => k_is)
    (case a_law => k_is); (case l_law => k_is); (case c_law => k_is); (case k_law => k_is); (case z_range => k_is); (case z_min => k_is); (case z_len => k_is); (case z_isinstance => k_is)
    (case z_int => k_is); (case z_bool => k_is); (case z_tuple => k_is); (case z_abs => k_is); (case z_all => k_is); (case z_sum => k_is); (case n_StretchError => k_is); (case n_NoNumber => k_is)
    (case x_NoNumber => k_exc); (case ic_NoNumber => k_is); (case ga_NoNumber => k_is); (case gt_NoNumber => k_is); (case cl_NoNumber => k_is); (case sg_NoNumber => k_is); (case tk_NoNumber => k_is); (case ob_NoNumber => k_is)
    (case be_NoNumber => k_is)