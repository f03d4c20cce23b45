import PyProof.Rows.All
import Wide.All
import OpenK.AllK
import Wide.FinOn
import Lean
import PyProof.EqAt
import PyProof.EqKinds
import PyProof.TupleCall
import PySem.Challenge.RW_surestretch_k15_rules_within_others
set_option Elab.async false
set_option linter.all false
set_option maxRecDepth 100000
namespace L2
open PySem PySem.Spec PyProof.Rows
abbrev Key := Sum Int Str
def keyIs : Key → Value → Bool
  | .inl k, v => Value.isInt k v
  | .inr x, v => Value.isStrOf x v
def keyH (w : World) : Key → Int
  | .inl k => hashInt k
  | .inr x => hashStr w x
theorem keyIs_shape : ∀ {k : Key} {v : Value}, keyIs k v = true → (∃ i t, k = Sum.inl i ∧ v = Value.int i t) ∨ (∃ x t, k = Sum.inr x ∧ v = Value.str x t)
  | .inl i, v, h => by
    obtain ⟨t, e⟩ := Value.isInt_shape (k := i) (v := v) h
    exact .inl ⟨i, t, rfl, e⟩
  | .inr x, v, h => by
    obtain ⟨t, e⟩ := Value.isStrOf_shape (x := x) (v := v) h
    exact .inr ⟨x, t, rfl, e⟩
theorem key_ll (a b : Int) : decide ((Sum.inl a : Key) = Sum.inl b) = (a == b) := by
  by_cases e : a = b
  · subst e; simp
  · have h : ¬ (Sum.inl a : Key) = Sum.inl b := fun q => e (Sum.inl.inj q)
    rw [decide_eq_false h]
    exact (beq_eq_false_iff_ne.mpr e).symm
theorem key_rr (a b : Str) : decide ((Sum.inr a : Key) = Sum.inr b) = decide (a = b) := by
  by_cases e : a = b
  · subst e; simp
  · have h : ¬ (Sum.inr a : Key) = Sum.inr b := fun q => e (Sum.inr.inj q)
    rw [decide_eq_false h, decide_eq_false e]
theorem key_lr (a : Int) (b : Str) : decide ((Sum.inl a : Key) = Sum.inr b) = false := decide_eq_false (fun q => nomatch q)
theorem key_rl (a : Str) (b : Int) : decide ((Sum.inr a : Key) = Sum.inl b) = false := decide_eq_false (fun q => nomatch q)
def mixKind (prog : Program) (w : World) : PySem.KeyKind prog w Key where
  is := keyIs
  hash := keyH w
  inj := fun v a b ha hb => by
    rcases keyIs_shape ha with ⟨i, t, rfl, rfl⟩ | ⟨x, t, rfl, rfl⟩
    · rcases keyIs_shape hb with ⟨j, u, rfl, e⟩ | ⟨y, u, rfl, e⟩
      · injection e with e1 _; rw [e1]
      · exact nomatch e
    · rcases keyIs_shape hb with ⟨j, u, rfl, e⟩ | ⟨y, u, rfl, e⟩
      · exact nomatch e
      · injection e with e1 _; rw [e1]
  byValue := fun k v h => by
    rcases keyIs_shape h with ⟨i, t, rfl, rfl⟩ | ⟨x, t, rfl, rfl⟩ <;> rfl
  pyHash := fun hv h => by
    rcases keyIs_shape hv with ⟨i, t, rfl, rfl⟩ | ⟨x, t, rfl, rfl⟩
    · exact wpAny_pyHash_int h
    · exact wpAny_pyHash_str h
  eqBool := fun hu hv h => by
    rcases keyIs_shape hu with ⟨i, t, rfl, rfl⟩ | ⟨x, t, rfl, rfl⟩
    · rcases keyIs_shape hv with ⟨j, u, rfl, rfl⟩ | ⟨y, u, rfl, rfl⟩
      · rw [key_ll] at h; exact wpAny_eqBool_int h
      · rw [key_lr] at h; exact SeqAt.EqAt.int_str i t y u _ _ _ _ h
    · rcases keyIs_shape hv with ⟨j, u, rfl, rfl⟩ | ⟨y, u, rfl, rfl⟩
      · rw [key_rl] at h; exact SeqAt.EqAt.str_int x t j u _ _ _ _ h
      · rw [key_rr] at h; exact wpAny_eqBool_str h
  «strs» := fun k x t v h => by
    rcases keyIs_shape h with ⟨i, u, rfl, e⟩ | ⟨y, u, rfl, e⟩
    · exact nomatch e
    · injection e with e1 _
      subst e1
      cases v <;> rfl
end L2
namespace L2
open PySem PySem.Spec PyProof.Rows
inductive V where
  | non | bl (b : Bool) | int (i : Int) | str (x : Str) | byt (b : Array UInt8) | flt (b : UInt64) | ref (a : Addr) | ty (n : String)
  deriving DecidableEq
def RelV : V → Value → Prop
  | .non, u => u = Value.none
  | .bl b, u => u = Value.bool b
  | .int i, u => ∃ t, u = Value.int i t
  | .str x, u => ∃ t, u = Value.str x t
  | .byt b, u => ∃ t, u = Value.bytes b t
  | .flt b, u => ∃ t, u = Value.float b t
  | .ref a, u => u = Value.ref a
  | .ty n, u => u = Value.type n
abbrev Vals : List V → List Value → Prop := Paired RelV
theorem Vals.length {xs : List V} {us : List Value} (r : Vals xs us) : xs.length = us.length := Paired.length r
theorem Vals.get : ∀ {xs : List V} {us : List Value} {i : Nat} {x : V}, Vals xs us → xs[i]? = some x → ∃ u, us[i]? = some u ∧ RelV x u
  | _, _, _, _, .nil, e => by simp at e
  | _, _, 0, _, .cons r _, e => by simp at e; subst e; exact ⟨_, rfl, r⟩
  | _, _, i + 1, x, .cons _ t, e => by
    obtain ⟨u, h1, h2⟩ := Vals.get (i := i) (x := x) t (by simpa using e)
    exact ⟨u, by simpa using h1, h2⟩
theorem Vals.set {x : V} {u : Value} (r : RelV x u) : ∀ {xs : List V} {us : List Value} (i : Nat), Vals xs us → Vals (xs.set i x) (us.set i u)
  | _, _, _, .nil => .nil
  | _, _, 0, .cons _ t => .cons r t
  | _, _, i + 1, .cons q t => .cons q (Vals.set r i t)
theorem Vals.append : ∀ {xs ys : List V} {us ws : List Value}, Vals xs us → Vals ys ws → Vals (xs ++ ys) (us ++ ws)
  | _, _, _, _, .nil, s => s
  | _, _, _, _, .cons r t, s => .cons r (Vals.append t s)
theorem Vals.take : ∀ {xs : List V} {us : List Value} (n : Nat), Vals xs us → Vals (xs.take n) (us.take n)
  | _, _, 0, _ => .nil
  | _, _, _ + 1, .nil => .nil
  | _, _, n + 1, .cons r t => .cons r (Vals.take n t)
theorem Vals.drop : ∀ {xs : List V} {us : List Value} (n : Nat), Vals xs us → Vals (xs.drop n) (us.drop n)
  | _, _, 0, r => r
  | _, _, _ + 1, .nil => .nil
  | _, _, n + 1, .cons _ t => Vals.drop n t
def RelO : Option V → Option Value → Prop
  | some v, some u => RelV v u
  | none, none => True
  | _, _ => False
def KV {κ : Type} : List (κ × V) → List (κ × Value) → Prop := Paired fun (p : κ × V) (q : κ × Value) => p.1 = q.1 ∧ RelV p.2 q.2
def kV : Key → V
  | .inl i => .int i
  | .inr x => .str x
inductive HO where
  | lst (xs : List V)
  | tup (xs : List V)
  | dK (kvs : List (Key × V)) | dT (kvs : List (List Key × V))
  | set (S : Int → Bool) (n : Nat)
  | ins (C dx : Addr) (fs : List (Str × V))
  | own (x : Addr)
  | xd (fs : List (Str × V))
  | met (f x : Addr)
  | rng (lo hi : Int)
  | frz (o : Obj) (u : HO)
  | tbl (ps : Array Value)
  | ext (φ : Heap → Prop)
abbrev Hp := Addr → Option HO
def upd (H : Hp) (a : Addr) (o : HO) : Hp := fun b => if b = a then some o else H b
theorem upd_same {H : Hp} {a : Addr} {o : HO} : upd H a o a = some o := by unfold upd; rw [if_pos rfl]
theorem upd_ne {H : Hp} {a b : Addr} {o : HO} (h : b ≠ a) : upd H a o b = H b := by unfold upd; rw [if_neg h]
theorem ne_of {H : Hp} {a b : Addr} {o u : HO} (h : H a = some o) (h' : H b = some u) (d : o ≠ u) : a ≠ b := by
  intro e; subst e; rw [h] at h'; exact d (Option.some.inj h')
theorem ne_of_none {H : Hp} {a b : Addr} {o : HO} (h : H a = some o) (h' : H b = none) : a ≠ b := by
  intro e; subst e; rw [h] at h'; cases h'
section
variable (P : Program) (w : World)
def ObjOk (H : Hp) (h : Heap) (a : Addr) : HO → Prop
  | .lst xs => xs.length ≤ sizeLine ∧ ∃ (its : List Value) (n : Nat), Vals xs its ∧ h.get? a = some { cls := .type "list", data := .seq its.toArray n }
  | .tup xs => xs.length ≤ sizeLine ∧ ∃ its : List Value, Vals xs its ∧ IsTup h a its.toArray
  | .dK kvs => kvs.length ≤ sizeLine ∧ (a == sysModules) = false ∧ ∃ vs, KV kvs vs ∧ h.DictOf (mixKind P w) a vs
  | .dT kvs => kvs.length ≤ sizeLine ∧ (a == sysModules) = false ∧ ∃ xs : List (List Key × Addr × Value),
      Paired (fun (p : List Key × V) (q : List Key × Addr × Value) => p.1 = q.1 ∧ H q.2.1 = some (.tup (p.1.map kV)) ∧ RelV p.2 q.2.2) kvs xs ∧
      ∃ o es ep, h.get? a = some o ∧ o.ExactDict ∧ o.data = .dict es ep ∧ es.toList = xs.map (entryOfKey (tupleKind (mixKind P w))) ∧ (xs.map (·.1)).Nodup
  | .set S n => h.SetOf (intKind P w) a S n
  | .ins C dx fs => H dx = some (.own a) ∧ fs.length ≤ 1000 ∧ dx ≠ a ∧ h.get? a = some (PySem.W.instObj C dx) ∧
      ∃ mA, h.Ns1 dx mA ∧ (∀ f, RelO (fs.lookup f) (mA f)) ∧ PySem.Within mA (fs.map (·.1))
  | .own _ => ∃ o, h.get? a = some o
  | .xd fs => ∃ mA, h.Ns1 a mA ∧ ∀ f, RelO (fs.lookup f) (mA f)
  | .rng lo hi => ∃ t u v, h.get? a = some { cls := .type "range", data := .fields #[.int lo t, .int hi u, .int 1 v] }
  | .frz o u => h.get? a = some o ∧ ObjOk H h a u
  | .tbl ps => h.get? a = some { cls := .none, data := .fields ps }
  | .met f x => h.get? a = some (PySem.W.methodObj (.ref f) (.ref x))
  | .ext φ => φ h ∧ (∃ o, h.get? a = some o) ∧ ∀ h1 h2 : Heap, φ h1 → (∀ o, h1.get? a = some o → h2.get? a = some o) → φ h2
def HOk (H : Hp) (h : Heap) : Prop := ∀ a o, H a = some o → ObjOk P w H h a o
end
section
variable {P : Program} {w : World} {H H' : Hp} {h h' : Heap} {a : Addr} {o : HO}
theorem ObjOk.lt (x : ObjOk P w H h a o) : a < h.objs.size := by
  cases o with
  | lst xs => obtain ⟨_, _, _, _, e⟩ := x; exact Heap.lt_size e
  | tup xs => obtain ⟨_, _, _, p⟩ := x; exact p.lt
  | dK kvs => obtain ⟨_, _, _, _, o, _, _, e, _⟩ := x; exact Heap.lt_size e
  | dT kvs => obtain ⟨_, _, _, _, o, _, _, e, _⟩ := x; exact Heap.lt_size e
  | set S n => obtain ⟨o, _, _, _, e, _⟩ := x; exact Heap.lt_size e
  | ins C dx fs => obtain ⟨_, _, _, e, _⟩ := x; exact Heap.lt_size e
  | own y => obtain ⟨_, e⟩ := x; exact Heap.lt_size e
  | xd fs => obtain ⟨_, ⟨_, _, _, e, _⟩, _⟩ := x; exact Heap.lt_size e
  | rng lo hi => obtain ⟨_, _, _, e⟩ := x; exact Heap.lt_size e
  | frz ob u => obtain ⟨e, _⟩ := x; exact Heap.lt_size e
  | tbl ps => exact Heap.lt_size (show h.get? a = some _ from x)
  | met f y => exact Heap.lt_size (show h.get? a = some _ from x)
  | ext φ => obtain ⟨_, ⟨_, e⟩, _⟩ := x; exact Heap.lt_size e
theorem Paired.mapP {α β : Type} {F G : α → β → Prop} : ∀ {l₁ : List α} {l₂ : List β}, Paired F l₁ l₂ → (∀ a b, F a b → G a b) → Paired G l₁ l₂
  | _, _, .nil, _ => .nil
  | _, _, .cons r t, f => .cons (f _ _ r) (Paired.mapP t f)
theorem ObjOk.stay (x : ObjOk P w H h a o) (k : ∀ b u, (b = a ∨ H b = some (.own a)) → h.get? b = some u → h'.get? b = some u)
    (ho : ∀ b, H b = some (.own a) → H' b = some (.own a)) (ht : ∀ b xs, H b = some (.tup xs) → H' b = some (.tup xs)) : ObjOk P w H' h' a o := by
  induction o with
  | lst xs => obtain ⟨z, its, n, r, e⟩ := x; exact ⟨z, its, n, r, k _ _ (.inl rfl) e⟩
  | tup xs => obtain ⟨z, its, r, ob, e, c⟩ := x; exact ⟨z, its, r, ob, k _ _ (.inl rfl) e, c⟩
  | dK kvs => obtain ⟨z, y, vs, r, ob, es, ep, e, c⟩ := x; exact ⟨z, y, vs, r, ob, es, ep, k _ _ (.inl rfl) e, c⟩
  | dT kvs =>
    obtain ⟨z, y, xs, r, ob, es, ep, e, c⟩ := x
    exact ⟨z, y, xs, Paired.mapP r fun p q z => ⟨z.1, ht _ _ z.2.1, z.2.2⟩, ob, es, ep, k _ _ (.inl rfl) e, c⟩
  | set S n => obtain ⟨ob, es, ep, t, e, c⟩ := x; exact ⟨ob, es, ep, t, k _ _ (.inl rfl) e, c⟩
  | ins C dx fs =>
    obtain ⟨d, z, ne, e, mA, ⟨od, es, ep, e2, c⟩, r⟩ := x
    exact ⟨ho _ d, z, ne, k _ _ (.inl rfl) e, mA, ⟨od, es, ep, k _ _ (.inr d) e2, c⟩, r⟩
  | own y => obtain ⟨ob, e⟩ := x; exact ⟨ob, k _ _ (.inl rfl) e⟩
  | xd fs => obtain ⟨mA, ⟨od, es, ep, e, c⟩, r⟩ := x; exact ⟨mA, ⟨od, es, ep, k _ _ (.inl rfl) e, c⟩, r⟩
  | rng lo hi => obtain ⟨t, u, v, e⟩ := x; exact ⟨t, u, v, k _ _ (.inl rfl) e⟩
  | frz ob u ih => obtain ⟨e, q⟩ := x; exact ⟨k _ _ (.inl rfl) e, ih q⟩
  | tbl ps =>
    have e : h.get? a = some { cls := .none, data := .fields ps } := x
    show h'.get? a = some { cls := .none, data := .fields ps }
    exact k a _ (.inl rfl) e
  | met f y =>
    have e : h.get? a = some (PySem.W.methodObj (.ref f) (.ref y)) := x
    show h'.get? a = some (PySem.W.methodObj (.ref f) (.ref y))
    exact k a _ (.inl rfl) e
  | ext φ => obtain ⟨p, ⟨o, e⟩, st⟩ := x; exact ⟨st _ _ p fun o q => k _ _ (.inl rfl) q, ⟨o, k _ _ (.inl rfl) e⟩, st⟩
theorem HOk.lt (x : HOk P w H h) (e : H a = some o) : a < h.objs.size := (x a o e).lt
theorem HOk.fresh (x : HOk P w H h) (e : h.objs.size ≤ a) : H a = none := by
  cases q : H a with
  | none => rfl
  | some u => exact absurd (Nat.lt_of_lt_of_le (x.lt q) e) (Nat.lt_irrefl _)
theorem HOk.kept (x : HOk P w H h) (k : ∀ b u, h.get? b = some u → h'.get? b = some u) : HOk P w H h' := fun a o e =>
  (x a o e).stay (fun b u _ q => k b u q) (fun _ q => q) fun _ _ q => q
theorem HOk.laid (x : HOk P w H h) (k : ∀ b u, h.get? b = some u → h'.get? b = some u) (hp : h.objs.size ≤ a) (new : ObjOk P w (upd H a o) h' a o) : HOk P w (upd H a o) h' := fun b u e => by
  have hn := x.fresh hp
  by_cases hb : b = a
  · subst hb; rw [upd_same] at e; cases e; exact new
  · rw [upd_ne hb] at e
    exact (x b u e).stay (fun c v _ q => k c v q) (fun c q => by rw [upd_ne (ne_of_none q hn)]; exact q) fun c xs q => by rw [upd_ne (ne_of_none q hn)]; exact q
end
def Rd (H : Hp) (a : Addr) (u : HO) : Prop := H a = some u ∨ ∃ o, H a = some (.frz o u)
theorem Rd.of {H : Hp} {a : Addr} {u : HO} (h : H a = some u) : Rd H a u := .inl h
theorem Rd.ok {P : Program} {w : World} {H : Hp} {h : Heap} {a : Addr} {u : HO} (r : Rd H a u) (x : HOk P w H h) : ObjOk P w H h a u := by
  rcases r with r | ⟨o, r⟩
  · exact x a u r
  · obtain ⟨_, q⟩ := x a _ r
    exact q
def Mut : Option HO → Prop
  | some (.lst _) => True
  | some (.dK _) => True
  | some (.dT _) => True
  | some (.set _ _) => True
  | some (.ins _ _ _) => True
  | some (.ext _) => True
  | _ => False
section
variable {P : Program} {w : World} {H : Hp} {h h' : Heap} {x e : Addr} {o' : HO}
theorem HOk.write (ok : HOk P w H h) (mu : Mut (H x)) (he : e = x ∨ H e = some (.own x)) (k : ∀ b u, b ≠ e → h.get? b = some u → h'.get? b = some u) (heo : ∃ u, h'.get? e = some u)
    (new : ObjOk P w (upd H x o') h' x o') : HOk P w (upd H x o') h' := fun b u q => by
  have nown : ∀ c y, H c = some (.own y) → c ≠ x := fun c y r z => by subst z; rw [r] at mu; exact mu
  have ntup : ∀ c xs, H c = some (.tup xs) → c ≠ x := fun c xs r z => by subst z; rw [r] at mu; exact mu
  by_cases hb : b = x
  · subst hb; rw [upd_same] at q; cases q; exact new
  · rw [upd_ne hb] at q
    by_cases hbe : b = e
    · have q' : H b = some (.own x) := by
        rcases he with z | z
        · exact absurd (hbe.trans z) hb
        · rw [hbe]; exact z
      rw [q] at q'; cases q'
      obtain ⟨v, hv⟩ := heo
      exact ⟨v, by rw [hbe]; exact hv⟩
    · refine (ok b u q).stay (fun c v hc r => k c v ?_ r) (fun c r => by rw [upd_ne (nown c b r)]; exact r) fun c xs r => by rw [upd_ne (ntup c xs r)]; exact r
      rcases hc with rfl | hc
      · exact hbe
      · rintro rfl
        rcases he with z | z
        · exact nown c b hc z
        · rw [hc] at z; cases z; exact hb rfl
end
structure Un (fs ex : List Addr) (H H' : Hp) (h h' : Heap) : Prop where
  keep : ∀ b o, h.get? b = some o → H b = none → b ∉ fs → b ∉ ex → h'.get? b = some o
  slot : ∀ b o, h.get? b = some o → H b = none → b ∈ fs → b ∉ ex → ∃ sl, h'.get? b = some { o with slots := sl }
  free : ∀ b o, h.get? b = some o → H b = none → b ∉ ex → H' b = none
  there : ∀ b o, h.get? b = some o → b ∉ ex → ∃ o', h'.get? b = some o'
  tups : ∀ b xs, H b = some (.tup xs) → H' b = some (.tup xs)
  frzs : ∀ b o u, H b = some (.frz o u) → H' b = some (.frz o u)
  tbls : ∀ b ps, H b = some (.tbl ps) → ∃ more, H' b = some (.tbl (ps ++ more))
section
variable {fs fs' ex ex' : List Addr} {H H1 H2 : Hp} {h h1 h2 h' : Heap} {a x e : Addr} {o : HO}
theorem Un.any (u : Un fs ex H H1 h h1) {b : Addr} {ob : Obj} (q : h.get? b = some ob) (n : H b = none) (hx : b ∉ ex) : ∃ sl, h1.get? b = some { ob with slots := sl } := by
  by_cases hb : b ∈ fs
  · exact u.slot b ob q n hb hx
  · exact ⟨ob.slots, u.keep b ob q n hb hx⟩
theorem Un.trans (a : Un fs ex H H1 h h1) (b : Un fs ex H1 H2 h1 h2) : Un fs ex H H2 h h2 where
  keep := fun c ob q n hc hx => b.keep c ob (a.keep c ob q n hc hx) (a.free c ob q n hx) hc hx
  slot := fun c ob q n hc hx => by
    obtain ⟨sl, e1⟩ := a.slot c ob q n hc hx
    obtain ⟨sl', e2⟩ := b.slot c _ e1 (a.free c ob q n hx) hc hx
    exact ⟨sl', e2⟩
  free := fun c ob q n hx => by
    obtain ⟨o', e1⟩ := a.there c ob q hx
    exact b.free c o' e1 (a.free c ob q n hx) hx
  there := fun c ob q hx => by
    obtain ⟨o', e1⟩ := a.there c ob q hx
    exact b.there c o' e1 hx
  tups := fun c xs q => b.tups c xs (a.tups c xs q)
  frzs := fun c ob xs q => b.frzs c ob xs (a.frzs c ob xs q)
  tbls := fun c ps q => by
    obtain ⟨m1, e1⟩ := a.tbls c ps q
    obtain ⟨m2, e2⟩ := b.tbls c _ e1
    exact ⟨m1 ++ m2, by rw [e2, Array.append_assoc]⟩
theorem Un.kept (k : ∀ b u, h.get? b = some u → h'.get? b = some u) : Un fs ex H H h h' :=
  ⟨fun b ob q _ _ _ => k b ob q, fun b ob q _ _ _ => ⟨ob.slots, k b ob q⟩, fun _ _ _ n _ => n, fun b ob q _ => ⟨ob, k b ob q⟩, fun _ _ q => q, fun _ _ _ q => q, fun _ ps q => ⟨#[], by rw [q]; simp⟩⟩
theorem Un.refl : Un fs ex H H h h := Un.kept fun _ _ q => q
theorem Un.laid (k : ∀ b u, h.get? b = some u → h'.get? b = some u) (hp : h.objs.size ≤ a) (hn : H a = none) : Un fs ex H (upd H a o) h h' where
  keep := fun b u q _ _ _ => k b u q
  slot := fun b u q _ _ _ => ⟨u.slots, k b u q⟩
  free := fun b u q n _ => by rw [upd_ne (Nat.ne_of_lt (Nat.lt_of_lt_of_le (Heap.lt_size q) hp))]; exact n
  there := fun b u q _ => ⟨u, k b u q⟩
  tups := fun b xs q => by rw [upd_ne (ne_of_none q hn)]; exact q
  frzs := fun b u xs q => by rw [upd_ne (ne_of_none q hn)]; exact q
  tbls := fun b ps q => ⟨#[], by rw [upd_ne (ne_of_none q hn), q]; simp⟩
theorem Un.write (mu : Mut (H x)) (he : e = x ∨ H e = some (.own x)) (k : ∀ b u, b ≠ e → h.get? b = some u → h'.get? b = some u) (heo : ∃ u, h'.get? e = some u) : Un fs ex H (upd H x o) h h' := by
  have hx : ∀ b, H b = none → b ≠ x := fun b n z => by subst z; rw [n] at mu; exact mu
  have hb : ∀ b, H b = none → b ≠ e := fun b n z => by
    subst z
    rcases he with r | r
    · exact hx b n r
    · rw [n] at r; cases r
  have hm : ∀ b u, H b = some u → ¬ Mut (some u) → b ≠ x := fun b u q nm z => by subst z; rw [q] at mu; exact nm mu
  refine ⟨fun b u q n _ _ => k b u (hb b n) q, fun b u q n _ _ => ⟨u.slots, k b u (hb b n) q⟩, fun b u q n _ => by rw [upd_ne (hx b n)]; exact n, fun b u q _ => ?_,
    fun b xs q => by rw [upd_ne (hm b _ q fun z => z)]; exact q, fun b u xs q => by rw [upd_ne (hm b _ q fun z => z)]; exact q, fun b ps q => ⟨#[], by rw [upd_ne (hm b _ q fun z => z), q]; simp⟩⟩
  by_cases hbe : b = e
  · subst hbe; exact heo
  · exact ⟨u, k b u hbe q⟩
theorem Un.mono (u : Un fs ex H H1 h h1) (hs : ∀ b ∈ fs, b ∈ fs') (hx : ∀ b ∈ ex, b ∈ ex') : Un fs' ex' H H1 h h1 :=
  ⟨fun b ob q n hb he => u.keep b ob q n (fun z => hb (hs b z)) fun z => he (hx b z), fun _ _ q n _ he => u.any q n fun z => he (hx _ z), fun b ob q n he => u.free b ob q n fun z => he (hx b z), fun b ob q he => u.there b ob q fun z => he (hx b z), u.tups, u.frzs, u.tbls⟩
end
def trk (h : Heap) (H : Hp) : List Addr := (List.range h.objs.size).filter fun a => (H a).isSome
def hidT (h : Heap) (H : Hp) : Heap := PySem.W.hideAll h (trk h H)
theorem hidT_size (h : Heap) (H : Hp) : (hidT h H).objs.size = h.objs.size := PySem.W.hideAll_size _ _
theorem hidT_get {h : Heap} {H : Hp} {b : Addr} {o : Obj} (e : h.get? b = some o) (n : H b = none) : (hidT h H).get? b = some o :=
  PySem.W.hideAll_get _ e fun hm => by
    have q : (H b).isSome = true := (List.mem_filter.mp hm).2
    rw [n] at q; simp at q
theorem of_hidT {h : Heap} {H : Hp} {b : Addr} {o : Obj} (e : (hidT h H).get? b = some o) : h.get? b = some o ∧ H b = none := by
  have e' : h.get? b = some o := PySem.W.of_hideAll (trk h H) e
  refine ⟨e', ?_⟩
  cases q : H b with
  | none => rfl
  | some x =>
    have hm : b ∈ trk h H := List.mem_filter.mpr ⟨List.mem_range.mpr (Heap.lt_size e'), by simp [q]⟩
    have z : (hidT h H).get? b = none := PySem.W.hideAll_none (trk h H) hm
    rw [z] at e; cases e
def allNews (g h : Heap) (L : Addr) : List (Addr × Obj) := (List.range h.objs.size).filterMap fun a => if a = L ∨ (g.get? a).isSome = true then none else (h.get? a).map fun o => (a, o)
def rest (g h : Heap) (L d : Addr) : List (Addr × Obj) := (allNews g h L).filter fun p => decide (p.1 ≠ d)
end L2
namespace L2
open PySem PySem.Spec PyProof.Rows
structure Mod (K : PySem.W.Frag) (mg : Str → Option Value) (base : Heap) : Prop where
  kin : K.In base
  glob : base.Ns mainGlobals mg
  blt : ∃ mb, base.Ns builtinsNs mb ∧ ∀ x : Str, x ≠ "__name__" → mb x = bootBuiltins x
  nolimit : base.NoLimit
structure Cx where
  prog : Program
  w : World
  K : PySem.W.Frag
  mg : Str → Option Value
  base : Heap
  A : Around
  N : List Str
  s₀ : Shared
  H₀ : Hp
  env : Env
  outer : List Env
  stack : List Env
  ex : List Addr
  fn : Str → Bool
  calm : Bool
  pn : List (Addr × Obj)
  xe : Value → Shared → Prop
def frs (l : List Env) : List Addr := l.filterMap (·.frame)
abbrev Cx.fs (X : Cx) : List Addr := frs X.outer
def Vis (sc : Scope) (x : Str) : Prop := sc.names.lookup x = some .local ∨ sc.names.lookup x = some .cell ∨ sc.names.lookup x = some .free
def Loc (sc : Scope) (x : Str) : Prop := sc.names.lookup x = some .local ∨ sc.names.lookup x = some .cell
def Look (env : Env) (h : Heap) (m : Str → Option Value) (x : Str) (u : Value) : Prop :=
  (env.kindOf x = some .local ∧ m x = some u) ∨ ((env.kindOf x = some .cell ∨ env.kindOf x = some .free) ∧ ∃ c, env.cells.lookup x = some c ∧ h.IsCell c (some u))
structure Cx.Ok (X : Cx) : Prop where
  mod : Mod X.K X.mg X.base
  kind : X.env.scope.kind = .function
  glob : X.env.globals = mainGlobals
  blt : X.env.builtins = builtinsNs
  above : X.s₀.heap.objs.size ≤ X.env.locals
  inj : ∀ x y c, X.env.cells.lookup x = some c → X.env.cells.lookup y = some c → x = y
  has : ∀ x, (X.env.kindOf x = some .cell ∨ X.env.kindOf x = some .free) → ∃ c, X.env.cells.lookup x = some c
  cab : ∀ x c, X.fn x = true → X.env.cells.lookup x = some c → X.s₀.heap.objs.size ≤ c
  hd : X.calm = true → X.A.handled = none
  frames : X.A.frames = some X.stack
  stk : X.stack = X.outer ∨ (X.stack = X.env :: X.outer ∧ X.env.frame = some X.env.locals)
  exf : ∀ b ∈ X.ex, b ≠ X.env.locals ∧ ∀ x c, X.env.cells.lookup x = some c → c ≠ b
  bs : ∀ b o, X.base.get? b = some o → X.s₀.heap.get? b = some o ∧ X.H₀ b = none
  bsz : X.base.objs.size ≤ X.s₀.heap.objs.size
  noex : ∀ b o, X.base.get? b = some o → b ∉ X.ex
  exfs : ∀ b ∈ X.ex, b ∉ X.fs
  funs : X.s₀.heap.FunFrames X.base X.outer
  frf : ∀ b ∈ X.fs, X.H₀ b = none
structure Inv (X : Cx) (pins : List (Addr × Obj)) (σ : List (Option V)) (H : Hp) (s : Shared) : Prop where
  ok : X.Ok
  os : s.os = X.s₀.os
  bare : AllBare s.gens
  base : Un X.fs X.ex X.H₀ H X.s₀.heap s.heap
  loc : ∃ m, s.heap.Ns X.env.locals m ∧ ∀ (i : Nat) (x : Str) (v : V), X.N[i]? = some x → σ[i]? = some (some v) → Vis X.env.scope x → ∃ u, RelV v u ∧ Look X.env s.heap m x u
  cell : ∀ x c, X.env.cells.lookup x = some c → ∃ v, s.heap.IsCell c v
  free : H X.env.locals = none
  freeC : ∀ x c, X.env.cells.lookup x = some c → H c = none
  pin : ∀ p ∈ X.pn ++ pins, s.heap.get? p.1 = some p.2 ∧ H p.1 = none ∧ p.1 ≠ X.env.locals ∧ p.1 ∉ X.fs ∧ ∀ v, p.2.data ≠ .cell v
  hok : HOk X.prog X.w H s.heap
  len : σ.length = X.N.length
section
variable {X : Cx} {pins : List (Addr × Obj)} {σ : List (Option V)} {H H' : Hp} {s : Shared} {h' : Heap}
theorem Cx.Ok.nofr (ok : X.Ok) {b : Addr} {o : Obj} (e : X.base.get? b = some o) : b ∉ X.fs := fun hb => by
  have := (ok.funs.mem hb).1
  rw [e] at this; cases this
theorem Inv.bs (I : Inv X pins σ H s) : ∀ b o, X.base.get? b = some o → s.heap.get? b = some o ∧ H b = none := fun b o e =>
  ⟨I.base.keep b o (I.ok.bs b o e).1 (I.ok.bs b o e).2 (I.ok.nofr e) (I.ok.noex b o e), I.base.free b o (I.ok.bs b o e).1 (I.ok.bs b o e).2 (I.ok.noex b o e)⟩
theorem Inv.bk (I : Inv X pins σ H s) : ∀ b o, X.base.get? b = some o → s.heap.get? b = some o := fun b o e => (I.bs b o e).1
theorem Inv.mod (I : Inv X pins σ H s) : Mod X.K X.mg X.base := I.ok.mod
theorem Inv.kIn (I : Inv X pins σ H s) : X.K.In s.heap := I.ok.mod.kin.keeps I.bk
theorem Inv.nolimit (I : Inv X pins σ H s) : s.heap.NoLimit := I.ok.mod.nolimit.keeps I.bk
theorem Inv.fr (I : Inv X pins σ H s) : ∃ m, Fr X.base X.env.locals s.heap m :=
  let ⟨m, hn, _⟩ := I.loc
  ⟨m, hn, I.bk, Nat.le_trans I.ok.bsz I.ok.above⟩
theorem Inv.lt (I : Inv X pins σ H s) : X.env.locals < s.heap.objs.size := let ⟨_, hn, _⟩ := I.loc; hn.lt
theorem Inv.sz (I : Inv X pins σ H s) : X.s₀.heap.objs.size ≤ s.heap.objs.size := Nat.le_trans I.ok.above (Nat.le_of_lt I.lt)
theorem Inv.nofs (I : Inv X pins σ H s) {a : Addr} (h : s.heap.objs.size ≤ a) : a ∉ X.fs := fun hb => by
  obtain ⟨_, o, ho, _⟩ := I.ok.funs.mem hb
  exact absurd (Nat.lt_of_lt_of_le (Heap.lt_size ho) (Nat.le_trans I.sz h)) (Nat.lt_irrefl _)
theorem Inv.cne (I : Inv X pins σ H s) : ∀ x c, X.env.cells.lookup x = some c → c ≠ X.env.locals := fun x c e z => by
  obtain ⟨v, o, ho, hd⟩ := I.cell x c e
  obtain ⟨m, ⟨o', es, ep, ho', hd', _⟩, _⟩ := I.loc
  rw [z, ho'] at ho; cases ho; rw [hd'] at hd; cases hd
theorem Inv.funs (I : Inv X pins σ H s) : s.heap.FunFrames X.base X.outer := by
  have all : ∀ (l : List Env), (∀ b ∈ frs l, b ∈ X.fs) → X.s₀.heap.FunFrames X.base l → s.heap.FunFrames X.base l := by
    intro l
    induction l with
    | nil => intro _ _; trivial
    | cons env r ih =>
      intro hs hl
      obtain ⟨hk, ⟨L, o, hf, hn, ho, hd⟩, hr⟩ := hl
      have hL : L ∈ X.fs := hs L (by unfold frs; rw [List.filterMap_cons, hf]; exact List.mem_cons_self)
      obtain ⟨sl, e⟩ := I.base.slot L o ho (I.ok.frf L hL) hL fun z => I.ok.exfs L z hL
      exact ⟨hk, ⟨L, _, hf, hn, e, hd⟩, ih (fun b hb => hs b (by unfold frs; rw [List.filterMap_cons, hf]; exact List.mem_cons_of_mem _ hb)) hr⟩
  exact all X.outer (fun _ hb => hb) I.ok.funs
theorem Inv.stack (I : Inv X pins σ H s) : s.heap.FunFrames X.base X.stack := by
  rcases I.ok.stk with e | ⟨e, hf⟩
  · rw [e]; exact I.funs
  · rw [e]
    obtain ⟨m, hn, _⟩ := I.loc
    refine .cons (by rw [I.ok.kind]; decide) hf hn ?_ I.funs
    exact Heap.get?_none_of_le (Nat.le_trans I.ok.bsz I.ok.above)
theorem Inv.stkSub (I : Inv X pins σ H s) : ∀ b ∈ frs X.stack, b ∈ X.env.locals :: X.fs := fun b hb => by
  rcases I.ok.stk with e | ⟨e, hf⟩
  · rw [e] at hb; exact List.mem_cons_of_mem _ hb
  · rw [e] at hb
    unfold frs at hb
    rw [List.filterMap_cons, hf] at hb
    exact hb
theorem Inv.stkFree (I : Inv X pins σ H s) : ∀ b ∈ frs X.stack, H b = none := fun b hb => by
  rcases List.mem_cons.mp (I.stkSub b hb) with e | hb
  · rw [e]; exact I.free
  · obtain ⟨_, o, ho, _⟩ := I.ok.funs.mem hb
    exact I.base.free b o ho (I.ok.frf b hb) fun z => I.ok.exfs b z hb
theorem Inv.step {g' : Array GenState} {t' : Nat} {d' : Drawn} {ch : List Addr} (I : Inv X pins σ H s)
    (hch : ∀ b ∈ ch, (b ∈ X.ex ∨ X.s₀.heap.objs.size ≤ b) ∧ b ≠ X.env.locals ∧ (∀ x c, X.env.cells.lookup x = some c → c ≠ b) ∧ ∀ p ∈ X.pn ++ pins, p.1 ≠ b)
    (keep : ∀ b o, b ≠ X.env.locals → b ∉ X.fs → b ∉ ch → s.heap.get? b = some o → H b = none → h'.get? b = some o)
    (slot : ∀ b o, b ≠ X.env.locals → b ∈ X.fs → b ∉ ch → s.heap.get? b = some o → H b = none → ∃ sl, h'.get? b = some { o with slots := sl }) (free : ∀ b o, b ∉ ch → s.heap.get? b = some o → H b = none → H' b = none)
    (there : ∀ b o, b ∉ ch → s.heap.get? b = some o → ∃ o', h'.get? b = some o')
    (tups : ∀ b xs, H b = some (.tup xs) → H' b = some (.tup xs)) (frzs : ∀ b o u, H b = some (.frz o u) → H' b = some (.frz o u)) (tbls : ∀ b ps, H b = some (.tbl ps) → ∃ more, H' b = some (.tbl (ps ++ more)))
    (ns : ∀ m, s.heap.Ns X.env.locals m → h'.Ns X.env.locals m) (hok : HOk X.prog X.w H' h') (hg : AllBare g') :
    Inv X pins σ H' { s with heap := h', gens := g', drawn := d', toks := t' } := by
  have neL : ∀ b o, X.s₀.heap.get? b = some o → b ≠ X.env.locals := fun b o e => Nat.ne_of_lt (Nat.lt_of_lt_of_le (Heap.lt_size e) I.ok.above)
  have neC : ∀ b o, X.s₀.heap.get? b = some o → b ∉ X.ex → b ∉ ch := fun b o e hx hb => by
    rcases (hch b hb).1 with z | z
    · exact hx z
    · exact absurd (Nat.lt_of_lt_of_le (Heap.lt_size e) z) (Nat.lt_irrefl _)
  have cellK : ∀ x c, X.env.cells.lookup x = some c → ∀ v, s.heap.IsCell c v → h'.IsCell c v := fun x c e v ⟨o, ho, hd⟩ => by
    have nch : c ∉ ch := fun z => (hch c z).2.2.1 x c e rfl
    by_cases hc : c ∈ X.fs
    · obtain ⟨sl, q⟩ := slot c o (I.cne x c e) hc nch ho (I.freeC x c e)
      exact ⟨_, q, hd⟩
    · exact ⟨o, keep c o (I.cne x c e) hc nch ho (I.freeC x c e), hd⟩
  refine ⟨I.ok, I.os, hg, ⟨fun b o e n hb hx => ?_, fun b o e n hb hx => ?_, fun b o e n hx => ?_, fun b o e hx => ?_, fun b xs e => tups b xs (I.base.tups b xs e), fun b o xs e => frzs b o xs (I.base.frzs b o xs e), fun b ps e => ?_⟩, ?_, fun x c e => ?_, ?_, fun x c e => ?_, fun p hp => ?_, hok, I.len⟩
  · exact keep b o (neL b o e) hb (neC b o e hx) (I.base.keep b o e n hb hx) (I.base.free b o e n hx)
  · obtain ⟨sl, e1⟩ := I.base.slot b o e n hb hx
    obtain ⟨sl', e2⟩ := slot b _ (neL b o e) hb (neC b o e hx) e1 (I.base.free b o e n hx)
    exact ⟨sl', e2⟩
  · obtain ⟨o', e1⟩ := I.base.there b o e hx
    exact free b o' (neC b o e hx) e1 (I.base.free b o e n hx)
  · obtain ⟨o', e1⟩ := I.base.there b o e hx
    exact there b o' (neC b o e hx) e1
  · obtain ⟨m1, e1⟩ := I.base.tbls b ps e
    obtain ⟨m2, e2⟩ := tbls b _ e1
    exact ⟨m1 ++ m2, by rw [e2, Array.append_assoc]⟩
  · obtain ⟨m, hn, hl⟩ := I.loc
    refine ⟨m, ns m hn, fun i x v e1 e2 e3 => ?_⟩
    obtain ⟨u, r, l⟩ := hl i x v e1 e2 e3
    refine ⟨u, r, ?_⟩
    rcases l with l | ⟨k, c, e, z⟩
    · exact .inl l
    · exact .inr ⟨k, c, e, cellK x c e _ z⟩
  · obtain ⟨v, z⟩ := I.cell x c e
    exact ⟨v, cellK x c e v z⟩
  · obtain ⟨m, ⟨o, _, _, ho, _⟩, _⟩ := I.loc
    exact free _ o (fun z => (hch _ z).2.1 rfl) ho I.free
  · obtain ⟨v, o, ho, hd⟩ := I.cell x c e
    exact free c o (fun z => (hch c z).2.2.1 x c e rfl) ho (I.freeC x c e)
  · obtain ⟨e, n, ne, nf, d⟩ := I.pin p hp
    have nch : p.1 ∉ ch := fun z => (hch p.1 z).2.2.2 p hp rfl
    exact ⟨keep p.1 p.2 ne nf nch e n, free p.1 p.2 nch e n, ne, nf, d⟩
theorem Inv.un {t' : Nat} (I : Inv X pins σ H s) (u : Un X.fs [] H H' s.heap h') (hok : HOk X.prog X.w H' h') : Inv X pins σ H' { s with heap := h', toks := t' } := by
  obtain ⟨m, ⟨o, es, ep, ho, r⟩, _⟩ := id I.loc
  obtain ⟨sl, hL⟩ := u.any ho I.free (by simp)
  exact I.step (g' := s.gens) (d' := s.drawn) (ch := []) (fun _ z => nomatch z) (fun b o _ hb _ e n => u.keep b o e n hb (by simp)) (fun b o _ hb _ e n => u.slot b o e n hb (by simp)) (fun b o _ e n => u.free b o e n (by simp)) (fun b o _ e => u.there b o e (by simp)) u.tups u.frzs u.tbls (fun m' hm => by
    obtain ⟨o', es', ep', ho', r'⟩ := hm
    rw [ho] at ho'; cases ho'
    exact ⟨_, es', ep', hL, r'⟩) hok I.bare
theorem Inv.call {g' : Array GenState} {t' : Nat} {d' : Drawn} {ch : List Addr} (I : Inv X pins σ H s) (u : Un (frs X.stack) ch H H' s.heap h') (hok : HOk X.prog X.w H' h') (hg : AllBare g')
    (hch : ∀ b ∈ ch, (b ∈ X.ex ∨ X.s₀.heap.objs.size ≤ b) ∧ b ≠ X.env.locals ∧ (∀ x c, X.env.cells.lookup x = some c → c ≠ b) ∧ ∀ p ∈ X.pn ++ pins, p.1 ≠ b) :
    Inv X pins σ H' { s with heap := h', gens := g', drawn := d', toks := t' } := by
  obtain ⟨m, ⟨o, es, ep, ho, r⟩, _⟩ := id I.loc
  obtain ⟨sl, hL⟩ := u.any ho I.free fun z => (hch _ z).2.1 rfl
  exact I.step (ch := ch) hch (fun b o hL hb hc e n => u.keep b o e n (fun z => (List.mem_cons.mp (I.stkSub b z)).elim hL hb) hc) (fun b o _ _ hc e n => u.any e n hc) (fun b o hc e n => u.free b o e n hc) (fun b o hc e => u.there b o e hc) u.tups u.frzs u.tbls (fun m' hm => by
    obtain ⟨o', es', ep', ho', r'⟩ := hm
    rw [ho] at ho'; cases ho'
    exact ⟨_, es', ep', hL, r'⟩) hok hg
theorem Inv.turned {t' : Nat} {it : Addr} (I : Inv X pins σ H s) (k : ∀ b o, b ≠ it → s.heap.get? b = some o → h'.get? b = some o) (hn : H it = none) (hL : it ≠ X.env.locals)
    (h1 : it ∈ X.ex ∨ X.s₀.heap.objs.size ≤ it) (h2 : ∀ x c, X.env.cells.lookup x = some c → c ≠ it) (h3 : ∀ p ∈ X.pn ++ pins, p.1 ≠ it) : Inv X pins σ H { s with heap := h', toks := t' } := by
  have nit : ∀ b u, H b = some u → b ≠ it := fun b u e z => by rw [z, hn] at e; cases e
  refine I.step (g' := s.gens) (d' := s.drawn) (ch := [it]) (fun b hb => ?_) (fun b o _ _ hc e _ => k b o (fun z => hc (by simp [z])) e) (fun b o _ _ hc e _ => ⟨o.slots, k b o (fun z => hc (by simp [z])) e⟩) (fun _ _ _ _ n => n)
    (fun b o hc e => ⟨o, k b o (fun z => hc (by simp [z])) e⟩) (fun _ _ e => e) (fun _ _ _ e => e) (fun b ps e => ⟨#[], by rw [e]; simp⟩) (fun m hm => ?_) (fun b u e => ?_) I.bare
  · have e : b = it := by simpa using hb
    subst e
    exact ⟨h1, hL, h2, h3⟩
  · obtain ⟨o, es, ep, ho, r⟩ := hm
    exact ⟨o, es, ep, k _ o (Ne.symm hL) ho, r⟩
  · refine (I.hok b u e).stay (fun c v hc q => k c v ?_ q) (fun _ q => q) fun _ _ q => q
    rcases hc with z | z
    · rw [z]; exact nit b u e
    · exact nit c _ z
theorem Inv.tok (I : Inv X pins σ H s) (t : Nat) : Inv X pins σ H { s with toks := t } := I.un (h' := s.heap) (t' := t) Un.refl I.hok
theorem Inv.kept {t' : Nat} (I : Inv X pins σ H s) (k : ∀ b u, s.heap.get? b = some u → h'.get? b = some u) : Inv X pins σ H { s with heap := h', toks := t' } := I.un (Un.kept k) (I.hok.kept k)
theorem Inv.laid {a : Addr} {o : HO} {t' : Nat} (I : Inv X pins σ H s) (k : ∀ b u, s.heap.get? b = some u → h'.get? b = some u) (hp : s.heap.objs.size ≤ a) (new : ObjOk X.prog X.w (upd H a o) h' a o) :
    Inv X pins σ (upd H a o) { s with heap := h', toks := t' } := I.un (Un.laid k hp (I.hok.fresh hp)) (I.hok.laid k hp new)
theorem Inv.write {x e : Addr} {o : HO} {t' : Nat} (I : Inv X pins σ H s) (mu : Mut (H x)) (he : e = x ∨ H e = some (.own x)) (k : ∀ b u, b ≠ e → s.heap.get? b = some u → h'.get? b = some u) (heo : ∃ u, h'.get? e = some u)
    (new : ObjOk X.prog X.w (upd H x o) h' x o) : Inv X pins σ (upd H x o) { s with heap := h', toks := t' } := I.un (Un.write mu he k heo) (I.hok.write mu he k heo new)
theorem Inv.pins_of {pins' : List (Addr × Obj)} (I : Inv X pins σ H s) (h : ∀ p ∈ pins', s.heap.get? p.1 = some p.2 ∧ H p.1 = none ∧ p.1 ≠ X.env.locals ∧ p.1 ∉ X.fs ∧ ∀ v, p.2.data ≠ .cell v) : Inv X pins' σ H s :=
  ⟨I.ok, I.os, I.bare, I.base, I.loc, I.cell, I.free, I.freeC, fun p hp => (List.mem_append.mp hp).elim (fun z => I.pin p (List.mem_append_left _ z)) (h p), I.hok, I.len⟩
theorem nodup_ix {N : List Str} (hN : N.Nodup) {i j : Nat} {x : Str} (a : N[i]? = some x) (b : N[j]? = some x) : i = j := by
  obtain ⟨h1, e1⟩ := List.getElem?_eq_some_iff.mp a
  obtain ⟨h2, e2⟩ := List.getElem?_eq_some_iff.mp b
  exact (List.getElem_inj hN).mp (e1.trans e2.symm)
theorem store_ok2 {M : Model} {A : Around} {E : Value → Shared → Prop} {i : Nat} {x : Str} {v : V} {u : Value} {Q : Unit → Shared → Prop} (I : Inv X pins σ H s) (hN : X.N.Nodup) (hi : X.N[i]? = some x) (hx : Loc X.env.scope x) (r : RelV v u)
    (h : ∀ s', Inv X pins (σ.set i (some v)) H s' → (∃ a, Heap.SameBut a s.heap s'.heap ∧ (a = X.env.locals ∨ X.env.cells.lookup x = some a)) → Q () s') (hf : X.fn x = true ∨ X.env.scope.names.lookup x = some .local := by first | exact .inl rfl | exact .inr rfl | assumption) : wpAny M A (storeName X.env x u) Q E s := by
  obtain ⟨m, hn, hl⟩ := id I.loc
  have hcls : (X.env.scope.kind == .class || (X.env.scope.kind == .module && X.env.locals != X.env.globals)) = false := by rw [I.ok.kind]; rfl
  have hiσ : i < σ.length := by rw [I.len]; exact (List.getElem?_eq_some_iff.mp hi).1
  have cne := I.cne
  have tracked : ∀ {a : Addr} {h' : Heap}, (∃ o, s.heap.get? a = some o ∧ H a = none) → Heap.SameBut a s.heap h' → HOk X.prog X.w H h' := fun {a h'} ha hs b ob e => by
    obtain ⟨_, _, hfree⟩ := ha
    refine (I.hok b ob e).stay (fun c w' hc q => (hs.2 c ?_).trans q) (fun _ q => q) fun _ _ q => q
    rintro rfl
    rcases hc with rfl | hc
    · rw [hfree] at e; cases e
    · rw [hfree] at hc; cases hc
  rcases hx with hk | hk
  · refine wpAny_storeName_local hk hn (fun h' hn' hs => ?_) hcls
    obtain ⟨oL, _, _, hoL, _⟩ := id hn
    refine h _ ⟨I.ok, I.os, I.bare, ⟨fun b o e n hb hx => ?_, fun b o e n hb hx => ?_, I.base.free, fun b o e hx => ?_, I.base.tups, I.base.frzs, I.base.tbls⟩, ⟨_, hn', fun j y v' e1 e2 e3 => ?_⟩, fun y c e => ?_, I.free, I.freeC, fun p hp => ?_, tracked ⟨oL, hoL, I.free⟩ hs, by simpa using I.len⟩ ⟨_, hs, .inl rfl⟩
    · exact (hs.2 b (Nat.ne_of_lt (Nat.lt_of_lt_of_le (Heap.lt_size e) I.ok.above))).trans (I.base.keep b o e n hb hx)
    · obtain ⟨sl, e1⟩ := I.base.slot b o e n hb hx
      exact ⟨sl, (hs.2 b (Nat.ne_of_lt (Nat.lt_of_lt_of_le (Heap.lt_size e) I.ok.above))).trans e1⟩
    · obtain ⟨o', e1⟩ := I.base.there b o e hx
      exact ⟨o', (hs.2 b (Nat.ne_of_lt (Nat.lt_of_lt_of_le (Heap.lt_size e) I.ok.above))).trans e1⟩
    · by_cases hj : j = i
      · subst hj
        rw [hi] at e1; cases e1
        rw [List.getElem?_set_self hiσ] at e2
        cases e2
        exact ⟨u, r, .inl ⟨hk, by simp⟩⟩
      · rw [List.getElem?_set_ne (Ne.symm hj)] at e2
        obtain ⟨u', r', q⟩ := hl j y v' e1 e2 e3
        refine ⟨u', r', ?_⟩
        rcases q with ⟨k, e⟩ | ⟨k, c, e, z⟩
        · refine .inl ⟨k, ?_⟩
          have : y ≠ x := fun e => hj (nodup_ix hN e1 (e ▸ hi))
          simp [this, e]
        · exact .inr ⟨k, c, e, z.sameBut hs (cne y c e)⟩
    · obtain ⟨w', z⟩ := I.cell y c e
      exact ⟨w', z.sameBut hs (cne y c e)⟩
    · obtain ⟨e, n, ne, nf, d⟩ := I.pin p hp
      exact ⟨(hs.2 p.1 ne).trans e, n, ne, nf, d⟩
  · have hfn : X.fn x = true := by
      rcases hf with z | z
      · exact z
      · rw [z] at hk; cases hk
    obtain ⟨c, hc⟩ := I.ok.has x (.inl hk)
    obtain ⟨w', z⟩ := I.cell x c hc
    refine wpAny_storeName_cell I.ok.kind hk hc z (fun h' hc' hs => ?_)
    obtain ⟨oc, hoc, hocd⟩ := id z
    refine h { s with heap := h' } ⟨I.ok, I.os, I.bare, ⟨fun b o e n hb hx => ?_, fun b o e n hb hx => ?_, I.base.free, fun b o e hx => ?_, I.base.tups, I.base.frzs, I.base.tbls⟩, ⟨m, hn.sameBut hs (Ne.symm (cne x c hc)), fun j y v' e1 e2 e3 => ?_⟩, fun y c' e => ?_, I.free, I.freeC, fun p hp => ?_, tracked ⟨oc, hoc, I.freeC x c hc⟩ hs, by simpa using I.len⟩ ⟨c, hs, .inr hc⟩
    · exact (hs.2 b (Nat.ne_of_lt (Nat.lt_of_lt_of_le (Heap.lt_size e) (I.ok.cab x c hfn hc)))).trans (I.base.keep b o e n hb hx)
    · obtain ⟨sl, e1⟩ := I.base.slot b o e n hb hx
      exact ⟨sl, (hs.2 b (Nat.ne_of_lt (Nat.lt_of_lt_of_le (Heap.lt_size e) (I.ok.cab x c hfn hc)))).trans e1⟩
    · obtain ⟨o', e1⟩ := I.base.there b o e hx
      exact ⟨o', (hs.2 b (Nat.ne_of_lt (Nat.lt_of_lt_of_le (Heap.lt_size e) (I.ok.cab x c hfn hc)))).trans e1⟩
    · by_cases hj : j = i
      · subst hj
        rw [hi] at e1; cases e1
        rw [List.getElem?_set_self hiσ] at e2
        cases e2
        exact ⟨u, r, .inr ⟨.inl hk, c, hc, hc'⟩⟩
      · rw [List.getElem?_set_ne (Ne.symm hj)] at e2
        obtain ⟨u', r', q⟩ := hl j y v' e1 e2 e3
        refine ⟨u', r', ?_⟩
        rcases q with q | ⟨k, c', e, z'⟩
        · exact .inl q
        · refine .inr ⟨k, c', e, z'.sameBut hs ?_⟩
          rintro rfl
          exact hj (nodup_ix hN e1 (I.ok.inj _ _ _ e hc ▸ hi))
    · by_cases hcc : c' = c
      · subst hcc; exact ⟨_, hc'⟩
      · obtain ⟨w2, z2⟩ := I.cell y c' e
        exact ⟨w2, z2.sameBut hs hcc⟩
    · obtain ⟨e, n, ne, nf, d⟩ := I.pin p hp
      refine ⟨(hs.2 p.1 ?_).trans e, n, ne, nf, d⟩
      intro q
      rw [q, hoc] at e
      have q' : oc = p.2 := Option.some.inj e
      exact d w' (by rw [← q']; exact hocd)
theorem store_ok {M : Model} {A : Around} {E : Value → Shared → Prop} {i : Nat} {x : Str} {v : V} {u : Value} {Q : Unit → Shared → Prop} (I : Inv X pins σ H s) (hN : X.N.Nodup) (hi : X.N[i]? = some x) (hx : Loc X.env.scope x) (r : RelV v u)
    (h : ∀ s', Inv X pins (σ.set i (some v)) H s' → Q () s') (hf : X.fn x = true ∨ X.env.scope.names.lookup x = some .local := by first | exact .inl rfl | exact .inr rfl | assumption) : wpAny M A (storeName X.env x u) Q E s :=
  store_ok2 I hN hi hx r (fun s' I' _ => h s' I') hf
theorem Inv.call' {s' : Shared} {ch : List Addr} (I : Inv X pins σ H s) (ho : s'.os = s.os) (u : Un (frs X.stack) ch H H' s.heap s'.heap) (hok : HOk X.prog X.w H' s'.heap) (hg : AllBare s'.gens)
    (hch : ∀ b ∈ ch, (b ∈ X.ex ∨ X.s₀.heap.objs.size ≤ b) ∧ b ≠ X.env.locals ∧ (∀ x c, X.env.cells.lookup x = some c → c ≠ b) ∧ ∀ p ∈ X.pn ++ pins, p.1 ≠ b) : Inv X pins σ H' s' := by
  obtain ⟨h', g', d', t', o'⟩ := s'
  have e : o' = s.os := ho
  subst e
  exact I.call (g' := g') (t' := t') (d' := d') u hok hg hch
end
abbrev XK := Value → Option Addr → Hp → Prop
abbrev St := List (Option V)
abbrev VK := V → Hp → Prop
abbrev TE := St → Hp → VK → Prop
abbrev TT := St → Hp → (Bool → Hp → Prop) → Prop
abbrev TA := St → Hp → (List V → Hp → Prop) → Prop
structure Ends where
  nx : St → Hp → Prop
  rt : VK
  bk : St → Hp → Prop := fun _ _ => False
  ct : St → Hp → Prop := fun _ _ => False
abbrev TS := Ends → St → Hp → Prop
def EP (X : Cx) (pins : List (Addr × Obj)) (σ : St) (Q : VK) (u : Value) (s' : Shared) : Prop := ∃ v H', Inv X pins σ H' s' ∧ RelV v u ∧ Q v H'
def TP (X : Cx) (pins : List (Addr × Obj)) (σ : St) (Q : Bool → Hp → Prop) (b : Bool) (s' : Shared) : Prop := ∃ H', Inv X pins σ H' s' ∧ Q b H'
def AP (X : Cx) (pins : List (Addr × Obj)) (σ : St) (Q : List V → Hp → Prop) (us : List Value) (s' : Shared) : Prop := ∃ vs H', Inv X pins σ H' s' ∧ Vals vs us ∧ Q vs H'
def SP (X : Cx) (pins : List (Addr × Obj)) (D : Ends) (f : Flow) (s' : Shared) : Prop :=
  match f with
  | .next => ∃ σ' H', Inv X pins σ' H' s' ∧ D.nx σ' H'
  | .brk => ∃ σ' H', Inv X pins σ' H' s' ∧ D.bk σ' H'
  | .cont => ∃ σ' H', Inv X pins σ' H' s' ∧ D.ct σ' H'
  | .ret u => ∃ v σ' H', Inv X pins σ' H' s' ∧ RelV v u ∧ D.rt v H'
def PE (X : Cx) (e : Expr) (t : TE) : Prop :=
  ∀ (pins : List (Addr × Obj)) (s : Shared) (σ : St) (H : Hp) (Q : VK), Inv X pins σ H s → t σ H Q → wpAny (model X.prog X.w) X.A (eval e X.env) (EP X pins σ Q) X.xe s
def PT (X : Cx) (e : Expr) (t : TT) : Prop :=
  ∀ (pins : List (Addr × Obj)) (s : Shared) (σ : St) (H : Hp) (Q : Bool → Hp → Prop), Inv X pins σ H s → t σ H Q → wpAny (model X.prog X.w) X.A (isTrue e X.env (eval e X.env)) (TP X pins σ Q) X.xe s
def PW (X : Cx) (e : Expr) (t : TT) : Prop :=
  ∀ (whole : Sem Value) (pins : List (Addr × Obj)) (s : Shared) (σ : St) (H : Hp) (Q : Bool → Hp → Prop), Inv X pins σ H s → t σ H Q → wpAny (model X.prog X.w) X.A (isTrue e X.env whole) (TP X pins σ Q) X.xe s
theorem PW.pt {X : Cx} {e : Expr} {t : TT} (h : PW X e t) : PT X e t := h _
def PA (X : Cx) (es : List Expr) (t : TA) : Prop :=
  ∀ (pos : Pos) (pins : List (Addr × Obj)) (s : Shared) (σ : St) (H : Hp) (Q : List V → Hp → Prop), Inv X pins σ H s → t σ H Q → wpAny (model X.prog X.w) X.A (spliced (backTo pos (starEach es X.env))) (AP X pins σ Q) X.xe s
def PS (X : Cx) (st : Stmt) (t : TS) : Prop :=
  ∀ (pins : List (Addr × Obj)) (s : Shared) (σ : St) (H : Hp) (D : Ends), Inv X pins σ H s → t D σ H → wpAny (model X.prog X.w) X.A (exec st X.env) (SP X pins D) X.xe s
def PSs (X : Cx) (st : List Stmt) (t : TS) : Prop :=
  ∀ (pins : List (Addr × Obj)) (s : Shared) (σ : St) (H : Hp) (D : Ends), Inv X pins σ H s → t D σ H → wpAny (model X.prog X.w) X.A (execs st X.env) (SP X pins D) X.xe s
theorem thn {α : Type} {t : Sem α} {Q Q' : α → Shared → Prop} {M : Model} {A : Around} {E : Value → Shared → Prop} {s : Shared} (h : wpAny M A t Q E s) (hQ : ∀ a s, Q a s → Q' a s) : wpAny M A t Q' E s := wpAny_mono h hQ fun _ _ x => x
end L2
namespace L2
open PySem PySem.Spec PyProof.Rows
section
variable {X : Cx}
def tVar (i : Nat) : TE := fun σ H Q => ∃ v, σ[i]? = some (some v) ∧ Q v H
def tC (v : V) : TE := fun _ H Q => Q v H
theorem pe_var {i : Nat} {x : Str} {pos : Pos} (hN : X.N[i]? = some x) (hv : Vis X.env.scope x) (hd : (x == ("__debug__" : Str)) = false := by decide) (hcd : (x == ("__classdict__" : Str)) = false := by decide) : PE X (.Name x pos) (tVar i) := by
  intro pins s σ H Q I h
  obtain ⟨v, e, h⟩ := h
  obtain ⟨m, hn, hl⟩ := I.loc
  obtain ⟨u, r, l⟩ := hl i x v hN e hv
  have fin : EP X pins σ Q u s := ⟨v, H, I, r, h⟩
  rcases l with ⟨hk, hm⟩ | ⟨hk, c, hc, hcell⟩
  · exact wpAny_Name (wpAny_loadName_local I.ok.kind hk hn hm fin) hd
  · rcases hk with hk | hk
    · exact wpAny_Name (wpAny_loadName_cell I.ok.kind hk hc hcell fin) hd
    · exact wpAny_Name (wpAny_loadName_free I.ok.kind hk hc hcell fin hcd) hd
theorem pe_int {i j pos} : PE X (.Constant (.int i) j pos) (tC (.int i)) := fun _ _ _ H _ I h => wpAny_Constant_int ⟨.int i, H, I.tok _, ⟨_, rfl⟩, h⟩
theorem pe_bl {b j pos} : PE X (.Constant (.bool b) j pos) (tC (.bl b)) := fun _ _ _ H _ I h => Constant_bool ⟨.bl b, H, I, rfl, h⟩
theorem pe_non {j pos} : PE X (.Constant .none j pos) (tC .non) := fun _ _ _ H _ I h => Constant_none ⟨.non, H, I, rfl, h⟩
def Gl (X : Cx) (x : Str) : Prop := X.env.kindOf x = some .globalImplicit
theorem ld_glob {E : Value → Shared → Prop} {pins : List (Addr × Obj)} {s : Shared} {σ : St} {H : Hp} {x : Str} {u : Value} {pos : Pos} {Q : Value → Shared → Prop} (I : Inv X pins σ H s) (hg : Gl X x) (hm : X.mg x = some u) (h : Q u s)
    (hd : (x == ("__debug__" : Str)) = false := by decide) : wpAny (model X.prog X.w) X.A (eval (.Name x pos) X.env) Q E s :=
  Calls.Name_function_global I.ok.kind hg (Calls.loadGlobal_global (by rw [I.ok.glob]; exact I.mod.glob.keeps I.bk) hm h) hd
theorem ld_blt {E : Value → Shared → Prop} {pins : List (Addr × Obj)} {s : Shared} {σ : St} {H : Hp} {x : Str} {u : Value} {pos : Pos} {Q : Value → Shared → Prop} (I : Inv X pins σ H s) (hg : Gl X x) (hm : X.mg x = none) (hv : bootBuiltins x = some u) (h : Q u s)
    (hn : x ≠ "__name__" := by decide) (hd : (x == ("__debug__" : Str)) = false := by decide) : wpAny (model X.prog X.w) X.A (eval (.Name x pos) X.env) Q E s := by
  obtain ⟨mb, h1, h2⟩ := I.mod.blt
  exact Calls.Name_function_global I.ok.kind hg (Calls.loadGlobal_builtin (by rw [I.ok.glob]; exact I.mod.glob.keeps I.bk) hm (by rw [I.ok.blt]; exact h1.keeps I.bk) ((h2 x hn).trans hv) h) hd
theorem pe_bltn {x : Str} {v : V} {u : Value} {pos : Pos} (hg : Gl X x) (hm : X.mg x = none) (hv : bootBuiltins x = some u) (r : RelV v u) (hn : x ≠ "__name__" := by decide) (hd : (x == ("__debug__" : Str)) = false := by decide) : PE X (.Name x pos) (tC v) :=
  fun _ _ _ H _ I h => ld_blt I hg hm hv ⟨v, H, I, r, h⟩ hn hd
variable {a b : Expr} {ta tb : TE} {pos : Pos}
def tB (t : TE) : TT := fun σ H Q => t σ H fun x H1 => ∃ c, x = .bl c ∧ Q c H1
theorem pt_val {e : Expr} {t : TE} (h : PE X e t) (he : ∀ whole, isTrue e X.env whole = (do let v ← whole; standAt e.pos; holding [v] (truthy v)) := by intro _; rfl) : PT X e (tB t) := by
  intro pins s σ H Q I hw
  refine isTrue_plain (thn (h pins s σ H _ I hw) fun v s1 ⟨x, H1, I1, r1, q1⟩ => ?_) (he _)
  obtain ⟨d, rfl, q⟩ := q1
  cases r1
  exact wpAny_truthy_bool ⟨H1, I1, q⟩
variable {tA tB' : TT} {rest : List Expr}
def tAnd (t u : TT) : TT := fun σ H Q => t σ H fun c H1 => if c = true then u σ H1 Q else Q false H1
def tOr (t u : TT) : TT := fun σ H Q => t σ H fun c H1 => if c = true then Q true H1 else u σ H1 Q
def tNot (t : TT) : TT := fun σ H Q => t σ H fun c H1 => Q (!c) H1
theorem pw_and1 (ha : PT X a tA) : PW X (.BoolOp .And [a] pos) tA := by
  intro wh pins s σ H Q I h
  refine isTrue_and (thn (ha pins s σ H Q I h) fun c s1 e => ?_)
  cases c with
  | true => exact isTrue_and_nil e
  | false => exact e
theorem pw_or1 (ha : PT X a tA) : PW X (.BoolOp .Or [a] pos) tA := by
  intro wh pins s σ H Q I h
  refine isTrue_or (thn (ha pins s σ H Q I h) fun c s1 e => ?_)
  cases c with
  | false => exact isTrue_or_nil e
  | true => exact e
theorem pw_and (ha : PT X a tA) (hb : PW X (.BoolOp .And (b :: rest) pos) tB') : PW X (.BoolOp .And (a :: b :: rest) pos) (tAnd tA tB') := by
  intro wh pins s σ H Q I h
  refine isTrue_and (thn (ha pins s σ H _ I h) fun c s1 ⟨H1, I1, q1⟩ => ?_)
  cases c with
  | true => exact hb wh pins s1 σ H1 Q I1 q1
  | false => exact ⟨H1, I1, q1⟩
theorem pw_or (ha : PT X a tA) (hb : PW X (.BoolOp .Or (b :: rest) pos) tB') : PW X (.BoolOp .Or (a :: b :: rest) pos) (tOr tA tB') := by
  intro wh pins s σ H Q I h
  refine isTrue_or (thn (ha pins s σ H _ I h) fun c s1 ⟨H1, I1, q1⟩ => ?_)
  cases c with
  | true => exact ⟨H1, I1, q1⟩
  | false => exact hb wh pins s1 σ H1 Q I1 q1
theorem pt_not (ha : PT X a tA) : PT X (.UnaryOp .Not a pos) (tNot tA) := by
  intro pins s σ H Q I h
  exact isTrue_not (ha pins s σ H (fun c H1 => Q (!c) H1) I h)
end
end L2
namespace L2
open PySem PySem.Spec PyProof.Rows
def SqL (K : PySem.W.Frag) (H : Hp) (a : Addr) (xs : List V) : Prop :=
  Rd H a (.lst xs) ∨
    ∃ (o : Obj) (its : Array Value) (n : Nat), K.lookup a = some o ∧ o.cls = .type "list" ∧ o.dict = none ∧ o.data = .seq its n ∧ its.size ≤ sizeLine ∧ Vals xs its.toList
def SqT (K : PySem.W.Frag) (H : Hp) (a : Addr) (xs : List V) : Prop :=
  Rd H a (.tup xs) ∨
    ∃ (o : Obj) (its : Array Value) (n : Nat), K.lookup a = some o ∧ o.cls = .type "tuple" ∧ o.data = .seq its n ∧ its.size ≤ sizeLine ∧ Vals xs its.toList
def absV : Value → Option V
  | .none => some .non
  | .bool b => some (.bl b)
  | .int i _ => some (.int i)
  | .str x _ => some (.str x)
  | .bytes b _ => some (.byt b)
  | .float b _ => some (.flt b)
  | .ref a => some (.ref a)
  | .type n => some (.ty n)
  | _ => none
theorem RelV.abs {x : V} {u : Value} (r : RelV x u) : absV u = some x := by
  cases x with
  | non => cases r; rfl
  | bl _ => cases r; rfl
  | int _ => obtain ⟨t, rfl⟩ := r; rfl
  | str _ => obtain ⟨t, rfl⟩ := r; rfl
  | byt _ => obtain ⟨t, rfl⟩ := r; rfl
  | flt _ => obtain ⟨t, rfl⟩ := r; rfl
  | ref _ => cases r; rfl
  | ty _ => cases r; rfl
theorem RelV.inj {x y : V} {u : Value} (r : RelV x u) (q : RelV y u) : x = y := Option.some.inj (r.abs.symm.trans q.abs)
theorem Vals.inj : ∀ {xs ys : List V} {us : List Value}, Vals xs us → Vals ys us → xs = ys
  | _, _, _, .nil, .nil => rfl
  | _, _, _, .cons r t, .cons r' t' => by rw [r.inj r', Vals.inj t t']
section
variable {X : Cx} {pins : List (Addr × Obj)} {σ : St} {H : Hp} {s : Shared} {a : Addr} {xs ys : List V}
theorem SqL.of {K : PySem.W.Frag} (h : H a = some (.lst xs)) : SqL K H a xs := .inl (.inl h)
theorem SqT.of {K : PySem.W.Frag} (h : H a = some (.tup xs)) : SqT K H a xs := .inl (.inl h)
theorem Inv.list (I : Inv X pins σ H s) (h : SqL X.K H a xs) : ∃ its : List Value, Vals xs its ∧ PlainL s.heap a its.toArray ∧ xs.length ≤ sizeLine := by
  rcases h with h | ⟨o, its, n, hk, hc, hd, hs, hz, r⟩
  · obtain ⟨z, its, n, r, e⟩ := h.ok I.hok
    exact ⟨its, r, ⟨_, n, e, rfl, rfl, rfl⟩, z⟩
  · refine ⟨its.toList, r, ⟨o, n, I.kIn a o hk, hc, hd, by simpa using hs⟩, ?_⟩
    have e := r.length
    simp only [Array.length_toList] at e
    omega
theorem Inv.tuple (I : Inv X pins σ H s) (h : SqT X.K H a xs) : ∃ its : List Value, Vals xs its ∧ IsTup s.heap a its.toArray ∧ xs.length ≤ sizeLine := by
  rcases h with h | ⟨o, its, n, hk, hc, hs, hz, r⟩
  · obtain ⟨z, its, r, p⟩ := h.ok I.hok
    exact ⟨its, r, p, z⟩
  · refine ⟨its.toList, r, ⟨o, I.kIn a o hk, hc, n, by simpa using hs⟩, ?_⟩
    have e := r.length
    simp only [Array.length_toList] at e
    omega
theorem Inv.list_inj (I : Inv X pins σ H s) (h : SqL X.K H a xs) (h' : SqL X.K H a ys) : xs = ys := by
  obtain ⟨its, r, ⟨o, n, e, _, _, d⟩, _⟩ := I.list h
  obtain ⟨its', r', ⟨o', n', e', _, _, d'⟩, _⟩ := I.list h'
  rw [e] at e'; cases e'
  rw [d] at d'
  injection d' with d1 _
  have : its = its' := by simpa using congrArg Array.toList d1
  subst this
  exact r.inj r'
theorem Inv.tuple_inj (I : Inv X pins σ H s) (h : SqT X.K H a xs) (h' : SqT X.K H a ys) : xs = ys := by
  obtain ⟨its, r, ⟨o, e, _, n, d⟩, _⟩ := I.tuple h
  obtain ⟨its', r', ⟨o', e', _, n', d'⟩, _⟩ := I.tuple h'
  rw [e] at e'; cases e'
  rw [d] at d'
  injection d' with d1 _
  have : its = its' := by simpa using congrArg Array.toList d1
  subst this
  exact r.inj r'
end
abbrev Cx.wish (X : Cx) (E : Value → Shared → Prop) : Cx := { X with xe := E }
abbrev Cx.nox (X : Cx) : Cx := X.wish fun _ _ => False
theorem Cx.Ok.wish {X : Cx} (ok : X.Ok) (E : Value → Shared → Prop) : (X.wish E).Ok :=
  ⟨ok.mod, ok.kind, ok.glob, ok.blt, ok.above, ok.inj, ok.has, ok.cab, ok.hd, ok.frames, ok.stk, ok.exf, ok.bs, ok.bsz, ok.noex, ok.exfs, ok.funs, ok.frf⟩
theorem Cx.Ok.unwish {X : Cx} {E : Value → Shared → Prop} (ok : (X.wish E).Ok) : X.Ok :=
  ⟨ok.mod, ok.kind, ok.glob, ok.blt, ok.above, ok.inj, ok.has, ok.cab, ok.hd, ok.frames, ok.stk, ok.exf, ok.bs, ok.bsz, ok.noex, ok.exfs, ok.funs, ok.frf⟩
section
variable {X : Cx} {pins : List (Addr × Obj)} {σ : St} {H : Hp} {s : Shared} {E : Value → Shared → Prop}
theorem Inv.wish (I : Inv X pins σ H s) (E : Value → Shared → Prop) : Inv (X.wish E) pins σ H s := ⟨I.ok.wish E, I.os, I.bare, I.base, I.loc, I.cell, I.free, I.freeC, I.pin, I.hok, I.len⟩
theorem Inv.unwish (I : Inv (X.wish E) pins σ H s) : Inv X pins σ H s := ⟨I.ok.unwish, I.os, I.bare, I.base, I.loc, I.cell, I.free, I.freeC, I.pin, I.hok, I.len⟩
theorem SP.unwish {D : Ends} {f : Flow} {s' : Shared} (h : SP (X.wish E) pins D f s') : SP X pins D f s' := by
  cases f with
  | next => obtain ⟨σ', H', I, q⟩ := h; exact ⟨σ', H', I.unwish, q⟩
  | brk => obtain ⟨σ', H', I, q⟩ := h; exact ⟨σ', H', I.unwish, q⟩
  | cont => obtain ⟨σ', H', I, q⟩ := h; exact ⟨σ', H', I.unwish, q⟩
  | ret u => obtain ⟨v, σ', H', I, r, q⟩ := h; exact ⟨v, σ', H', I.unwish, r, q⟩
theorem PE.nox {e : Expr} {t : TE} (h : PE X.nox e t) : PE X e t := fun pins s σ H Q I hw =>
  wpAny_mono (h pins s σ H Q (I.wish _) hw) (fun _ _ ⟨v, H', I', r, q⟩ => ⟨v, H', I'.unwish, r, q⟩) fun _ _ z => False.elim z
theorem PT.nox {e : Expr} {t : TT} (h : PT X.nox e t) : PT X e t := fun pins s σ H Q I hw =>
  wpAny_mono (h pins s σ H Q (I.wish _) hw) (fun _ _ ⟨H', I', q⟩ => ⟨H', I'.unwish, q⟩) fun _ _ z => False.elim z
theorem PSs.nox {st : List Stmt} {t : TS} (h : PSs X.nox st t) : PSs X st t := fun pins s σ H D I hw =>
  wpAny_mono (h pins s σ H D (I.wish _) hw) (fun _ _ q => q.unwish) fun _ _ z => False.elim z
end
section
variable {X : Cx} {st : Stmt} {rest : List Stmt} {t u : TS} {e : Expr} {te : TE} {pos : Pos}
def tNext : TS := fun D σ H => D.nx σ H
def tSeq (t u : TS) : TS := fun D σ H => t { D with nx := u D } σ H
theorem pss_nil : PSs X [] tNext := fun _ _ σ H _ I h => wpAny_execs_nil ⟨σ, H, I, h⟩
theorem pss_cons (h1 : PS X st t) (h2 : PSs X rest u) : PSs X (st :: rest) (tSeq t u) := by
  intro pins s σ H D I h
  refine wpAny_execs_cons (thn (h1 pins s σ H { D with nx := u D } I h) fun f s1 q => ?_)
  cases f with
  | next =>
    obtain ⟨σ', H', I', q⟩ := q
    exact h2 pins s1 σ' H' D I' q
  | ret v => exact q
  | brk => exact q
  | cont => exact q
theorem pss_one (h1 : PS X st t) : PSs X [st] t := by
  intro pins s σ H D I h
  refine wpAny_execs_cons (thn (h1 pins s σ H D I h) fun f s1 q => ?_)
  cases f with
  | next => exact wpAny_execs_nil q
  | ret v => exact q
  | brk => exact q
  | cont => exact q
theorem Inv.quiet {pins : List (Addr × Obj)} {σ : St} {H : Hp} {s : Shared} (I : Inv X pins σ H s) : interactive X.env = false := by simp [interactive, I.ok.kind]
def tDrop (te : TE) : TS := fun D σ H => te σ H fun _ H1 => D.nx σ H1
theorem ps_expr (he : PE X e te) (hs : swapsWith e none pos.line X.env = pure false := by rfl) : PS X (.Expr e pos) (tDrop te) := by
  intro pins s σ H D I h
  exact wpAny_Expr_any (thn (he pins s σ H _ I h) fun v s1 ⟨x, H1, I1, r1, q1⟩ => ⟨σ, H1, I1, q1⟩) I.quiet hs
def tRet (te : TE) : TS := fun D σ H => te σ H D.rt
theorem ps_ret (he : PE X e te) : PS X (.Return (some e) pos) (tRet te) := by
  intro pins s σ H D I h
  exact wpAny_Return_some (thn (he pins s σ H _ I h) fun v s1 ⟨x, H1, I1, r1, q1⟩ => ⟨x, σ, H1, I1, r1, q1⟩)
def tIfS (c : TT) (t u : TS) : TS := fun D σ H => c σ H fun b H1 => if b = true then t D σ H1 else u D σ H1
theorem ps_if {c : Expr} {a b : List Stmt} {tc : TT} (hc : PT X c tc) (ha : PSs X a t) (hb : PSs X b u) : PS X (.If c a b pos) (tIfS tc t u) := by
  intro pins s σ H D I h
  refine wpAny_If (thn (hc pins s σ H _ I h) fun d s1 ⟨H1, I1, q1⟩ => ?_)
  cases d with
  | true => exact ha pins s1 σ H1 D I1 q1
  | false => exact hb pins s1 σ H1 D I1 q1
end
abbrev TG := V → St → Hp → (St → Hp → Prop) → Prop
abbrev TGs := List V → St → Hp → (St → Hp → Prop) → Prop
def PG (X : Cx) (target : Expr) (t : TG) : Prop :=
  ∀ (pins : List (Addr × Obj)) (s : Shared) (σ : St) (H : Hp) (v : V) (u : Value) (Q : St → Hp → Prop), Inv X pins σ H s → RelV v u → t v σ H Q →
    wpAny (model X.prog X.w) X.A (assign target X.env u) (fun _ s' => ∃ σ' H', Inv X pins σ' H' s' ∧ Q σ' H') X.xe s
def PGs (X : Cx) (ts : List Expr) (t : TGs) : Prop :=
  ∀ (pins : List (Addr × Obj)) (s : Shared) (σ : St) (H : Hp) (vs : List V) (us : List Value) (Q : St → Hp → Prop), Inv X pins σ H s → Vals vs us → t vs σ H Q →
    wpAny (model X.prog X.w) X.A (assignInOrder ((assignEach ts X.env).map (·.2)) us) (fun _ s' => ∃ σ' H', Inv X pins σ' H' s' ∧ Q σ' H') X.xe s
abbrev TSet := V → V → V → Hp → (Hp → Prop) → Prop
def PSet (X : Cx) (t : TSet) : Prop :=
  ∀ (pins : List (Addr × Obj)) (s : Shared) (σ : St) (H : Hp) (o i v : V) (ov iv u : Value) (Q : Hp → Prop), Inv X pins σ H s → RelV o ov → RelV i iv → RelV v u → t o i v H Q →
    wpAny (model X.prog X.w) X.A (setItem ov iv u) (fun _ s' => ∃ H', Inv X pins σ H' s' ∧ Q H') X.xe s
section
variable {X : Cx} {pos : Pos}
def gName (i : Nat) : TG := fun v σ H Q => Q (σ.set i (some v)) H
theorem pg_name {i : Nat} {x : Str} (hN : X.N.Nodup) (hi : X.N[i]? = some x) (hx : Loc X.env.scope x) (hf : X.fn x = true ∨ X.env.scope.names.lookup x = some .local := by first | exact .inl rfl | exact .inr rfl | assumption) : PG X (.Name x pos) (gName i) := by
  intro pins s σ H v u Q I r h
  exact wpAny_assign_Name (store_ok I hN hi hx r (fun s' I' => ⟨_, H, I', h⟩) hf)
def gNil : TGs := fun vs σ H Q => vs = [] ∧ Q σ H
def gCons (t : TG) (u : TGs) : TGs := fun vs σ H Q => ∃ v r, vs = v :: r ∧ t v σ H fun σ' H' => u r σ' H' Q
theorem pgs_nil : PGs X [] gNil := by
  intro pins s σ H vs us Q I r h
  obtain ⟨e, h⟩ := h
  subst e
  cases r
  exact assignInOrder_nil ⟨σ, H, I, h⟩
theorem pgs_cons {e : Expr} {es : List Expr} {t : TG} {u : TGs} (h1 : PG X e t) (h2 : PGs X es u)
    (hs : (assignEach (e :: es) X.env).map (·.2) = assign e X.env :: (assignEach es X.env).map (·.2) := by rfl) : PGs X (e :: es) (gCons t u) := by
  intro pins s σ H vs us Q I r h
  obtain ⟨v, vr, e1, h⟩ := h
  subst e1
  cases r with
  | cons r rr =>
    rw [hs]
    refine assignInOrder_cons (thn (h1 pins s σ H _ _ _ I r h) fun _ s1 ⟨σ1, H1, I1, q1⟩ => ?_)
    exact h2 pins s1 σ1 H1 _ _ Q I1 rr q1
def gTup (K : PySem.W.Frag) (n : Nat) (t : TGs) : TG := fun v σ H Q => ∃ a xs, v = .ref a ∧ SqT K H a xs ∧ xs.length = n ∧ t xs σ H Q
theorem pg_tup {es : List Expr} {k : Nat} {t : TGs} {n : Nat} (hc : X.calm = true) (h : PGs X es t)
    (hn : (assignEach es X.env).length = n := by rfl) (hst : (assignEach es X.env).findIdx? (·.1) = none := by rfl) : PG X (.Tuple es k pos) (gTup X.K n t) := by
  intro pins s σ H v u Q I r hw
  obtain ⟨a, xs, e1, hq, hl, hw⟩ := hw
  subst e1
  cases r
  obtain ⟨its, rv, ht, hz⟩ := I.tuple hq
  refine assign_Tuple_tuple (I.ok.hd hc) ht (by simp [hn, ← hl, rv.length]) hst fun h' hx => ?_
  have I1 : Inv X pins σ H { s with heap := h' } := I.kept (t' := s.toks) fun b o e => hx b o (Nat.ne_of_lt (Heap.lt_size e)) e
  exact h pins _ σ H xs _ Q I1 (by simpa using rv) hw
def gSub (to ti : TE) (t : TSet) : TG := fun v σ H Q => to σ H fun o H1 => ti σ H1 fun i H2 => t o i v H2 fun H3 => Q σ H3
theorem pg_sub {o i : Expr} {to ti : TE} {t : TSet} (ho : PE X o to) (hi : PE X i ti) (hs : PSet X t)
    (ha : ∀ v, assign (.Subscript o i pos) X.env v = (do
      let ov ← holding [v] (eval o X.env)
      let iv ← holding [v, ov] (eval i X.env)
      standAt pos
      holding [v, ov, iv] (setItem ov iv v)
      release [v, ov, iv] []) := by intro _; rfl) : PG X (.Subscript o i pos) (gSub to ti t) := by
  intro pins s σ H v u Q I r h
  rw [ha]
  refine wpAny_bind (wpAny_holding (thn (ho pins s σ H _ I h) fun ov s1 ⟨x, H1, I1, r1, q1⟩ => ?_))
  refine wpAny_bind (wpAny_holding (thn (hi pins s1 σ H1 _ I1 q1) fun iv s2 ⟨y, H2, I2, r2, q2⟩ => ?_))
  refine wpAny_bind (wpAny_standAt (wpAny_bind (wpAny_holding (thn (hs pins s2 σ H2 x y v ov iv u _ I2 r1 r2 r q2) fun _ s3 ⟨H3, I3, q3⟩ => ?_))))
  exact wpAny_release ⟨σ, H3, I3, q3⟩
def tAsg (te : TE) (g : TG) : TS := fun D σ H => te σ H fun x H1 => g x σ H1 D.nx
theorem ps_asg {tg e : Expr} {te : TE} {g : TG} (he : PE X e te) (hg : PG X tg g) (hs : swapsWithSole [tg] e pos.line X.env = pure false := by rfl) (hw : swappedStores [tg] e X.env = pure none := by rfl)
    (h1 : (assignEach [tg] X.env).map (·.2) = [assign tg X.env] := by rfl) : PS X (.Assign [tg] e pos) (tAsg te g) := by
  intro pins s σ H D I h
  refine wpAny_Assign_stores (thn (he pins s σ H _ I h) fun v s1 ⟨x, H1, I1, r1, q1⟩ => ?_) hs hw
  rw [h1]
  exact thn (hg pins s1 σ H1 x v _ I1 r1 q1) fun _ s2 q => q
theorem ps_set {i : Nat} {x : Str} {e : Expr} {te : TE} {pos' : Pos} (hN : X.N.Nodup) (hi : X.N[i]? = some x) (hx : Loc X.env.scope x) (he : PE X e te) (hs : swapsWith e (some (.Name x pos')) pos.line X.env = pure false := by rfl) (hf : X.fn x = true ∨ X.env.scope.names.lookup x = some .local := by first | exact .inl rfl | exact .inr rfl | assumption) :
    PS X (.Assign [.Name x pos'] e pos) (tAsg te (gName i)) := by
  intro pins s σ H D I h
  refine wpAny_Assign_Name (thn (he pins s σ H _ I h) fun v s1 ⟨y, H1, I1, r1, q1⟩ => ?_) hs
  exact store_ok I1 hN hi hx r1 (fun s2 I2 => ⟨_, H1, I2, q1⟩) hf
def tPar (i j : Nat) (ta : TA) : TS := fun D σ H => ta σ H fun vs H1 => ∃ v w, vs = [v, w] ∧ D.nx ((σ.set i (some v)).set j (some w)) H1
theorem ps_par {i j : Nat} {x y : Str} {a b : Expr} {ta : TA} {px py pt : Pos} {kt k2 pt2} (hc : X.calm = true) (hN : X.N.Nodup) (hi : X.N[i]? = some x) (hj : X.N[j]? = some y) (hij : i ≠ j)
    (hx : X.env.scope.names.lookup x = some .local) (hy : X.env.scope.names.lookup y = some .local) (ha : PA X [a, b] ta)
    (hw : swappedStores [.Tuple [.Name x px, .Name y py] kt pt] (.Tuple [a, b] k2 pt2) X.env = pure (some [x, y]))
    (hs : swapsWithSole [.Tuple [.Name x px, .Name y py] kt pt] (.Tuple [a, b] k2 pt2) pos.line X.env = pure false := by rfl) :
    PS X (.Assign [.Tuple [.Name x px, .Name y py] kt pt] (.Tuple [a, b] k2 pt2) pos) (tPar i j ta) := by
  intro pins s σ H D I h
  rw [exec_Assign_arm]
  refine wpAny_bind (wpAny_standAt ?_)
  rw [hs]
  refine wpAny_bind (wpAny_pure ?_)
  rw [if_neg (by decide)]
  refine wpAny_bind (Tuple_ (thn (ha _ pins s σ H _ I h) fun us s1 ⟨vs, H1, I1, r1, q1⟩ => ?_))
  obtain ⟨v, w, e1, q1⟩ := q1
  subst e1
  obtain ⟨u1, u2, rfl, rv, rw'⟩ : ∃ u1 u2, us = [u1, u2] ∧ RelV v u1 ∧ RelV w u2 := by
    cases r1 with
    | cons p q =>
      cases q with
      | cons p' q' =>
        cases q'
        exact ⟨_, _, rfl, p, p'⟩
  refine wpAny_newObj_type ?_ (by show 2 ≤ sizeLine; decide)
  have I2 : Inv X pins σ H1 { s1 with heap := s1.heap.push { cls := .type "tuple", data := .seq [u1, u2].toArray } } := I1.kept (t' := s1.toks) fun b o e => Heap.get?_push_of_some _ e
  rw [hw]
  refine wpAny_bind (wpAny_pure ?_)
  show wpAny (model X.prog X.w) X.A (do rule "assign.swapped-stores"; let items ← unpackItems (.ref s1.heap.objs.size) 2 none; assignInOrder [fun v => bindName X.env y v, fun v => bindName X.env x v] items.reverse; pure Flow.next) _ _ _
  refine wpAny_bind (wpAny_rule (wpAny_bind (unpackItems_tuple (items := #[u1, u2]) (I.ok.hd hc) (IsTup.new s1.heap _) fun h' hx' => ?_)))
  have I3 := I2.kept (h' := h') (t' := s1.toks) fun b o e => hx' b o (Nat.ne_of_lt (Heap.lt_size e)) e
  show wpAny _ _ (assignInOrder [fun v => bindName X.env y v, fun v => bindName X.env x v] [u2, u1] >>= fun _ => pure Flow.next) _ _ _
  refine wpAny_bind (assignInOrder_cons (wpAny_bindName (store_ok I3 hN hj (.inl hy) rw' (fun s2 I4 => ?_) (.inr hy))))
  refine assignInOrder_cons (wpAny_bindName (store_ok I4 hN hi (.inl hx) rv (fun s3 I5 => assignInOrder_nil (wpAny_pure ?_)) (.inr hx)))
  rw [List.set_comm _ _ (Ne.symm hij)] at I5
  exact ⟨_, H1, I5, q1⟩
end
section
variable {X : Cx} {pos : Pos}
def tWhile (c : TT) (tb : TS) : TS := fun D σ H => ∃ W : Nat → St → Hp → Prop, (∃ m, W m σ H) ∧ ∀ m σ H, W m σ H →
  c σ H fun b H1 => if b = true then ∃ N : St → Hp → Prop, (∀ σ' H', N σ' H' → ∃ m', m' < m ∧ W m' σ' H') ∧ tb { D with nx := N, ct := N, bk := D.nx } σ H1 else D.nx σ H1
theorem ps_while {c : Expr} {body : List Stmt} {tc : TT} {tb : TS} (hp : PassesOwn (model X.prog X.w) X.A X.env X.xe) (hc : PT X c tc) (hb : PSs X body tb) : PS X (.While c body [] pos) (tWhile tc tb) := by
  intro pins s σ H D I h
  obtain ⟨W, ⟨m0, w0⟩, turn⟩ := h
  refine wpAny_While (codeAny_whileLoop (fun n s' => ∃ σ' H', Inv X pins σ' H' s' ∧ W n σ' H') ?_ m0 ⟨σ, H, I, w0⟩)
  rintro n s1 ⟨σ1, H1, I1, w1⟩
  refine wpAny_passesOwn hp (thn (hc pins s1 σ1 H1 _ I1 (turn n σ1 H1 w1)) fun b s2 ⟨H2, I2, q2⟩ => ?_)
  cases b with
  | true =>
    obtain ⟨N, hN, q2⟩ := q2
    rw [if_pos rfl]
    refine wpAny_passesOwn hp (thn (hb pins s2 σ1 H2 _ I2 q2) fun f s3 q3 => ?_)
    cases f with
    | next =>
      obtain ⟨σ3, H3, I3, n3⟩ := q3
      obtain ⟨m', hm, w3⟩ := hN σ3 H3 n3
      exact ⟨m', hm, σ3, H3, I3, w3⟩
    | cont =>
      obtain ⟨σ3, H3, I3, n3⟩ := q3
      obtain ⟨m', hm, w3⟩ := hN σ3 H3 n3
      exact ⟨m', hm, σ3, H3, I3, w3⟩
    | brk => exact q3
    | ret v => exact q3
  | false =>
    rw [if_neg Bool.false_ne_true]
    exact wpAny_execs_nil ⟨σ1, H2, I2, q2⟩
end
structure It where
  go : Nat → Hp → Prop
  yld : Nat → Hp → V → Hp → Prop
  stop : Nat → Hp → Prop
def FpOk (X : Cx) (pins : List (Addr × Obj)) (H : Hp) (b : Addr) : Prop :=
  H b = none ∧ b ≠ X.env.locals ∧ b ∉ X.fs ∧ (b ∈ X.ex ∨ X.s₀.heap.objs.size ≤ b) ∧ (∀ x c, X.env.cells.lookup x = some c → c ≠ b) ∧ ∀ p ∈ X.pn ++ pins, p.1 ≠ b
theorem Inv.fpOk {X : Cx} {pins : List (Addr × Obj)} {σ : St} {H H' : Hp} {s : Shared} {b : Addr} (I : Inv X pins σ H s) (hb : s.heap.objs.size ≤ b) (hn : H' b = none) : FpOk X pins H' b := by
  refine ⟨hn, Nat.ne_of_gt (Nat.lt_of_lt_of_le I.lt hb), I.nofs hb, .inr (Nat.le_trans I.sz hb), fun x c e z => ?_, fun p hp z => ?_⟩
  · obtain ⟨v, q⟩ := I.cell x c e
    exact absurd (Nat.lt_of_lt_of_le q.lt (by rw [z]; exact hb)) (Nat.lt_irrefl _)
  · exact absurd (Nat.lt_of_lt_of_le (Heap.lt_size (I.pin p hp).1) (by rw [z]; exact hb)) (Nat.lt_irrefl _)
structure Turn (P : Program) (w : World) (K : PySem.W.Frag) (tg : Expr) (J : It) (fp : List Addr) (it : Addr) (tn : Nat → Heap → Prop) : Prop where
  mem : it ∈ fp
  obj : ∀ i h, tn i h → ∀ b ∈ fp, ∃ o, h.get? b = some o ∧ ∀ v, o.data ≠ .cell v
  keep : ∀ i h h', tn i h → (∀ b ∈ fp, ∀ o, h.get? b = some o → h'.get? b = some o) → tn i h'
  item : ∀ (X : Cx), X.prog = P → X.w = w → X.K = K → X.calm = true → ∀ (i : Nat) (pins : List (Addr × Obj)) (s : Shared) (σ : St) (H : Hp) (E : Value → Shared → Prop), Inv X pins σ H s → (∀ b ∈ fp, FpOk X pins H b) → tn i s.heap → J.go i H →
    wpAny (model P w) X.A (pyNext (.ref it)) (fun r s1 => ∃ u, r = some u ∧
      wpAny (model P w) X.A (letOwnedTupleGo tg (.ref it) u) (fun _ s2 => ∃ x H', Inv X pins σ H' s2 ∧ RelV x u ∧ J.yld i H x H' ∧ tn (i + 1) s2.heap ∧ ∀ b ∈ fp, H' b = none) E s1) E s
  done : ∀ (X : Cx), X.prog = P → X.w = w → X.K = K → X.calm = true → ∀ (i : Nat) (pins : List (Addr × Obj)) (s : Shared) (σ : St) (H : Hp) (E : Value → Shared → Prop), Inv X pins σ H s → (∀ b ∈ fp, FpOk X pins H b) → tn i s.heap → J.stop i H →
    wpAny (model P w) X.A (pyNext (.ref it)) (fun r s1 => r = none ∧ Inv X pins σ H s1) E s
  self : ∀ (A : Around) (i : Nat) (s : Shared) (Q : Value → Shared → Prop) (E : Value → Shared → Prop), tn i s.heap → Q (.ref it) s → wpAny (model P w) A (pyIter (.ref it)) Q E s
abbrev TI := St → Hp → (It → Hp → Prop) → Prop
def PIE (X : Cx) (pins : List (Addr × Obj)) (σ : St) (tg : Expr) (R : It → Hp → Prop) (itv : Value) (s2 : Shared) : Prop :=
  ∃ (it : Addr) (fp : List Addr) (tn : Nat → Heap → Prop) (J : It) (H' : Hp), itv = .ref it ∧ Inv X pins σ H' s2 ∧ Turn X.prog X.w X.K tg J fp it tn ∧ tn 0 s2.heap ∧ (∀ b ∈ fp, FpOk X pins H' b) ∧ R J H'
def PI (X : Cx) (tg iter : Expr) (wi : TI) : Prop :=
  ∀ (pins : List (Addr × Obj)) (s : Shared) (σ : St) (H : Hp) (R : It → Hp → Prop), Inv X pins σ H s → wi σ H R →
    wpAny (model X.prog X.w) X.A (eval iter X.env) (fun v s1 => wpAny (model X.prog X.w) X.A (pyIter v) (PIE X pins σ tg R) X.xe s1) X.xe s
theorem go_of {M : Model} {A : Around} {E : Value → Shared → Prop} {s : Shared} {tg : Expr} {it : Addr} {u : Value} {o : Obj} {n : String} {vs : Array Value} {Q : Unit → Shared → Prop} (ho : s.heap.get? it = some o) (hc : o.cls = .type n) (hd : o.data = .fields vs)
    (hn : ["enumerate", "zip", "dict_itemiterator", "dict_reverseitemiterator", "odict_iterator", "itertools.zip_longest", "itertools.pairwise"].contains n = false) (hQ : Q () s) : wpAny M A (letOwnedTupleGo tg (.ref it) u) Q E s := by
  unfold letOwnedTupleGo
  cases tg <;> first
    | exact wpAny_pure hQ
    | (cases u <;> first
        | exact wpAny_pure hQ
        | (refine wpAny_bind (wpAny_load ho ?_)
           rw [hc, hd]
           show wpAny M A (if (["enumerate", "zip", "dict_itemiterator", "dict_reverseitemiterator", "odict_iterator", "itertools.zip_longest", "itertools.pairwise"].contains n && vs[0]? == some (rawInt _)) = true then _ else _) Q E s
           rw [if_neg (by intro h; rw [hn, Bool.false_and] at h; cases h)]
           exact wpAny_pure hQ))
def Itl (K : PySem.W.Frag) (a : Addr) : It :=
  ⟨fun i H => ∃ xs x, SqL K H a xs ∧ xs[i]? = some x, fun i H x H' => H' = H ∧ ∀ xs, SqL K H a xs → xs[i]? = some x, fun i H => ∃ xs, SqL K H a xs ∧ xs.length ≤ i⟩
def Itt (K : PySem.W.Frag) (a : Addr) : It :=
  ⟨fun i H => ∃ xs x, SqT K H a xs ∧ xs[i]? = some x, fun i H x H' => H' = H ∧ ∀ xs, SqT K H a xs → xs[i]? = some x, fun i H => ∃ xs, SqT K H a xs ∧ xs.length ≤ i⟩
def Itr (lo : Int) (n : Nat) : It := ⟨fun i _ => i < n, fun i H x H' => H' = H ∧ x = .int (lo + i), fun i _ => n ≤ i⟩
theorem turn_list {P : Program} {w : World} {K : PySem.W.Frag} {tg : Expr} (a it : Addr) : Turn P w K tg (Itl K a) [it] it (fun i h => h.IsListIter it a i) where
  mem := by simp
  obj := fun i h st b hb => by
    have e : b = it := by simpa using hb
    subst e
    obtain ⟨o, e, c, d⟩ := st
    exact ⟨o, e, fun v z => by rw [d] at z; cases z⟩
  keep := fun i h h' st k => st.at fun o e => k it (by simp) o e
  item := by
    intro X hP hw hK hc i pins s σ H E I hf st hg
    subst hP hw hK
    obtain ⟨xs, x, hq, hx⟩ := hg
    obtain ⟨its, rv, p, hz⟩ := I.list hq
    obtain ⟨u, hu, ru⟩ := rv.get hx
    obtain ⟨f0, f1, f2, f3, f4, f5⟩ := hf it (by simp)
    refine wpAny_pyNext_list_item st p.isList (x := u) (by simpa using hu) fun h' st' sb => ?_
    have I1 : Inv X pins σ H { s with heap := h' } := I.turned (t' := s.toks) (fun b o hb e => (sb.2 b hb).trans e) f0 f1 f3 f4 f5
    obtain ⟨o, e, c, d⟩ := id st'
    exact ⟨u, rfl, go_of (s := { s with heap := h' }) e c d (by decide) ⟨x, H, I1, ru, ⟨rfl, fun ys hy => by rw [I.list_inj hy hq]; exact hx⟩, st', fun b hb => (hf b hb).1⟩⟩
  done := by
    intro X hP hw hK hc i pins s σ H E I hf st hg
    subst hP hw hK
    obtain ⟨xs, hq, hx⟩ := hg
    obtain ⟨its, rv, p, hz⟩ := I.list hq
    obtain ⟨f0, f1, f2, f3, f4, f5⟩ := hf it (by simp)
    have hl := rv.length
    exact wpAny_pyNext_list_end (I.ok.hd hc) st p.isList (by simp; omega) fun h' eb => ⟨rfl, I.turned (t' := s.toks) (fun b o hb e => eb b o hb e) f0 f1 f3 f4 f5⟩
  self := fun _ _ _ _ _ st h => wpAny_pyIter_listiter st h
theorem turn_tuple {P : Program} {w : World} {K : PySem.W.Frag} {tg : Expr} (a it : Addr) : Turn P w K tg (Itt K a) [it] it (fun i h => h.IsTupleIter it a i) where
  mem := by simp
  obj := fun i h st b hb => by
    have e : b = it := by simpa using hb
    subst e
    obtain ⟨o, e, c, d⟩ := st
    exact ⟨o, e, fun v z => by rw [d] at z; cases z⟩
  keep := fun i h h' st k => st.at fun o e => k it (by simp) o e
  item := by
    intro X hP hw hK hc i pins s σ H E I hf st hg
    subst hP hw hK
    obtain ⟨xs, x, hq, hx⟩ := hg
    obtain ⟨its, rv, p, hz⟩ := I.tuple hq
    obtain ⟨u, hu, ru⟩ := rv.get hx
    obtain ⟨f0, f1, f2, f3, f4, f5⟩ := hf it (by simp)
    refine wpAny_pyNext_tuple_item st (show s.heap.IsTuple a its.toArray from p) (x := u) (by simpa using hu) fun h' st' sb => ?_
    have I1 : Inv X pins σ H { s with heap := h' } := I.turned (t' := s.toks) (fun b o hb e => (sb.2 b hb).trans e) f0 f1 f3 f4 f5
    obtain ⟨o, e, c, d⟩ := id st'
    exact ⟨u, rfl, go_of (s := { s with heap := h' }) e c d (by decide) ⟨x, H, I1, ru, ⟨rfl, fun ys hy => by rw [I.tuple_inj hy hq]; exact hx⟩, st', fun b hb => (hf b hb).1⟩⟩
  done := by
    intro X hP hw hK hc i pins s σ H E I hf st hg
    subst hP hw hK
    obtain ⟨xs, hq, hx⟩ := hg
    obtain ⟨its, rv, p, hz⟩ := I.tuple hq
    obtain ⟨f0, f1, f2, f3, f4, f5⟩ := hf it (by simp)
    have hl := rv.length
    exact wpAny_pyNext_tuple_end (I.ok.hd hc) st (show s.heap.IsTuple a its.toArray from p) (by simp; omega) fun h' eb => ⟨rfl, I.turned (t' := s.toks) (fun b o hb e => eb b o hb e) f0 f1 f3 f4 f5⟩
  self := fun _ _ _ _ _ st h => wpAny_pyIter_tupleiter st h
theorem turn_range {P : Program} {w : World} {K : PySem.W.Frag} {tg : Expr} (it : Addr) (lo : Int) (n : Nat) : Turn P w K tg (Itr lo n) [it] it (fun i h => IsRangeIter h it (lo + (i : Nat) * 1) ((n : Int) - (i : Nat)) 1) where
  mem := by simp
  obj := fun i h st b hb => by
    have e : b = it := by simpa using hb
    subst e
    exact ⟨_, st, fun v z => by
      have z' : Data.fields _ = Data.cell v := z
      cases z'⟩
  keep := fun i h h' st k => k it (by simp) _ st
  item := by
    intro X hP hw hK hc i pins s σ H E I hf st hg
    subst hP hw hK
    obtain ⟨f0, f1, f2, f3, f4, f5⟩ := hf it (by simp)
    have W := Walks.range (prog := X.prog) (w := X.w) (I.ok.hd hc) it lo 1 n
    refine W.item i s _ _ hg st fun v h' tk hv st' kk => ?_
    obtain ⟨t, rfl⟩ := hv
    have I1 : Inv X pins σ H { s with heap := h', toks := tk } := I.turned (fun b o hb e => kk b o (by simpa using hb) e) f0 f1 f3 f4 f5
    refine ⟨_, rfl, go_of (s := { s with heap := h', toks := tk }) (n := "range_iterator") st' rfl rfl (by decide) ⟨.int (lo + i), H, I1, ⟨t, ?_⟩, ⟨rfl, rfl⟩, st', fun b hb => (hf b hb).1⟩⟩
    rw [Int.mul_one]
  done := by
    intro X hP hw hK hc i pins s σ H E I hf st hg
    subst hP hw hK
    obtain ⟨f0, f1, f2, f3, f4, f5⟩ := hf it (by simp)
    exact wpAny_pyNext_range_end (I.ok.hd hc) st (by have : n ≤ i := hg; omega) fun h' eb => ⟨rfl, I.turned (t' := s.toks) (fun b o hb e => eb b o hb e) f0 f1 f3 f4 f5⟩
  self := fun _ _ _ _ _ st h => wpAny_pyIter_rangeiter st h
end L2
namespace L2
open PySem PySem.Spec PyProof.Rows
section
variable {X : Cx} {tg : Expr}
def iList (K : PySem.W.Frag) (tl : TE) : TI := fun σ H R => tl σ H fun x H1 => ∃ a, x = .ref a ∧ (∃ xs, SqL K H1 a xs) ∧ R (Itl K a) H1
def iTup (K : PySem.W.Frag) (tl : TE) : TI := fun σ H R => tl σ H fun x H1 => ∃ a, x = .ref a ∧ (∃ xs, SqT K H1 a xs) ∧ R (Itt K a) H1
theorem pi_list {l : Expr} {tl : TE} (hl : PE X l tl) : PI X tg l (iList X.K tl) := by
  intro pins s σ H R I h
  refine thn (hl pins s σ H _ I h) fun v s1 ⟨x, H1, I1, r1, q1⟩ => ?_
  obtain ⟨a, e, ⟨xs, hq⟩, q⟩ := q1
  subst e
  cases r1
  obtain ⟨its, rv, p, hz⟩ := I1.list hq
  refine wpAny_pyIter_list p.isList ?_
  refine ⟨s1.heap.objs.size, [s1.heap.objs.size], _, _, H1, rfl, I1.kept (t' := s1.toks) fun b o e => Heap.get?_push_of_some _ e, turn_list a _, ⟨_, Heap.get?_push_size _ rfl, rfl, rfl⟩, fun b hb => ?_, q⟩
  have e : b = s1.heap.objs.size := by simpa using hb
  subst e
  exact I1.fpOk (Nat.le_refl _) (I1.hok.fresh (Nat.le_refl _))
theorem pi_tup {l : Expr} {tl : TE} (hl : PE X l tl) : PI X tg l (iTup X.K tl) := by
  intro pins s σ H R I h
  refine thn (hl pins s σ H _ I h) fun v s1 ⟨x, H1, I1, r1, q1⟩ => ?_
  obtain ⟨a, e, ⟨xs, hq⟩, q⟩ := q1
  subst e
  cases r1
  obtain ⟨its, rv, p, hz⟩ := I1.tuple hq
  refine wpAny_pyIter_tuple (show s1.heap.IsTuple a its.toArray from p) ?_
  refine ⟨s1.heap.objs.size, [s1.heap.objs.size], _, _, H1, rfl, I1.kept (t' := s1.toks) fun b o e => Heap.get?_push_of_some _ e, turn_tuple a _, ⟨_, Heap.get?_push_size _ rfl, rfl, rfl⟩, fun b hb => ?_, q⟩
  have e : b = s1.heap.objs.size := by simpa using hb
  subst e
  exact I1.fpOk (Nat.le_refl _) (I1.hok.fresh (Nat.le_refl _))
theorem range_it {pins : List (Addr × Obj)} {σ : St} {H : Hp} {s : Shared} {R : It → Hp → Prop} {E : Value → Shared → Prop} {lo hi : Int} {t u v : Tok} {tk : Nat} (I : Inv X pins σ H s) (h1 : -(2 ^ 62) ≤ lo) (h2 : lo < 2 ^ 62) (h3 : -(2 ^ 62) ≤ hi) (h4 : hi < 2 ^ 62)
    (q : R (Itr lo (hi - lo).toNat) H) : wpAny (model X.prog X.w) X.A (pyIter (.ref s.heap.objs.size)) (PIE X pins σ tg R) E { s with heap := s.heap.push { cls := .type "range", data := .fields #[.int lo t, .int hi u, .int 1 v] }, toks := tk } := by
  refine wpAny_pyIter_range (IsRange.new ..) (small_one h1 h2 h3 h4) ?_
  have I1 : Inv X pins σ H { s with heap := s.heap.push { cls := .type "range", data := .fields #[.int lo t, .int hi u, .int 1 v] }, toks := tk } := I.kept fun b o e => Heap.get?_push_of_some _ e
  refine ⟨(s.heap.push { cls := .type "range", data := .fields #[.int lo t, .int hi u, .int 1 v] }).objs.size, [(s.heap.push { cls := .type "range", data := .fields #[.int lo t, .int hi u, .int 1 v] }).objs.size], _, _, H, rfl,
    I1.kept (t' := tk) fun b o e => Heap.get?_push_of_some _ e, turn_range _ lo (hi - lo).toNat, ?_, fun b hb => ?_, q⟩
  · have e1 : lo + ((0 : Nat) : Int) * 1 = lo := by simp
    have e2 : (((hi - lo).toNat : Nat) : Int) - ((0 : Nat) : Int) = Builtin.Range.rangeSize lo hi 1 := by rw [rangeSize_one]; split <;> omega
    show IsRangeIter _ _ (lo + ((0 : Nat) : Int) * 1) ((((hi - lo).toNat : Nat) : Int) - ((0 : Nat) : Int)) 1
    rw [e1, e2]
    exact Heap.get?_push_size _ rfl
  · have e : b = (s.heap.push { cls := .type "range", data := .fields #[.int lo t, .int hi u, .int 1 v] }).objs.size := by simpa using hb
    subst e
    exact I1.fpOk (Nat.le_refl _) (I1.hok.fresh (Nat.le_refl _))
def iRng1 (ta : TA) : TI := fun σ H R => ta σ H fun vs H1 => ∃ j : Int, vs = [.int j] ∧ -(2 ^ 62) ≤ j ∧ j < 2 ^ 62 ∧ R (Itr 0 j.toNat) H1
theorem pi_range1 {a : Expr} {ta : TA} {p pos : Pos} (hg : Gl X "range") (hm : X.mg "range" = none) (ha : PA X [a] ta) (hs : starEach [a] X.env = [(false, eval a X.env)] := by rfl) : PI X tg (.Call (.Name "range" p) [a] [] pos) (iRng1 ta) := by
  intro pins s σ H R I h
  refine Call_ (ld_blt I hg hm boot_range (PyProof.Rows.callWith_type1 (thn (ha pos pins s σ H _ I h) fun us s1 ⟨vs, H1, I1, r1, q1⟩ => ?_) hs rfl))
  obtain ⟨j, e, q1, q2, q⟩ := q1
  subst e
  cases r1 with
  | cons r rr =>
    cases rr
    obtain ⟨t, rfl⟩ := r
    exact call_range_1 (range_it I1 (by omega) (by omega) q1 q2 (by simpa using q))
def tFor (wi : TI) (g : TG) (tb : TS) : TS := fun D σ H => wi σ H fun J H1 => ∃ W : Nat → Nat → St → Hp → Prop, (∃ m, W 0 m σ H1) ∧ ∀ i m σ H, W i m σ H →
  (J.stop i H ∧ D.nx σ H) ∨ (J.go i H ∧ ∃ N : St → Hp → Prop, (∀ σ' H', N σ' H' → ∃ m', m' < m ∧ W (i + 1) m' σ' H') ∧ ∀ x H', J.yld i H x H' → g x σ H' fun σ2 H2 => tb { D with nx := N, ct := N, bk := D.nx } σ2 H2)
def pinsAt (fp : List Addr) (h : Heap) : List (Addr × Obj) := fp.filterMap fun b => (h.get? b).map fun o => (b, o)
theorem mem_pinsAt {fp : List Addr} {h : Heap} {b : Addr} {o : Obj} (hb : b ∈ fp) (e : h.get? b = some o) : (b, o) ∈ pinsAt fp h := List.mem_filterMap.mpr ⟨b, hb, by rw [e]; rfl⟩
theorem of_pinsAt {fp : List Addr} {h : Heap} {p : Addr × Obj} (hp : p ∈ pinsAt fp h) : p.1 ∈ fp ∧ h.get? p.1 = some p.2 := by
  obtain ⟨b, hb, e⟩ := List.mem_filterMap.mp hp
  cases q : h.get? b with
  | none => rw [q] at e; cases e
  | some o =>
    rw [q] at e
    have e' : (b, o) = p := Option.some.inj e
    subst e'
    exact ⟨hb, q⟩
theorem Inv.pinned {pins : List (Addr × Obj)} {σ : St} {H : Hp} {s : Shared} {fp : List Addr} (I : Inv X pins σ H s) (hf : ∀ b ∈ fp, FpOk X pins H b) (ho : ∀ b ∈ fp, ∃ o, s.heap.get? b = some o ∧ ∀ v, o.data ≠ .cell v) : Inv X (pins ++ pinsAt fp s.heap) σ H s :=
  I.pins_of fun p hp => (List.mem_append.mp hp).elim (fun z => I.pin p (List.mem_append_right _ z)) fun z => by
    obtain ⟨hb, e⟩ := of_pinsAt z
    obtain ⟨f0, f1, f2, _⟩ := hf p.1 hb
    obtain ⟨o, e', d⟩ := ho p.1 hb
    rw [e] at e'; cases e'
    exact ⟨e, f0, f1, f2, d⟩
theorem Inv.unpinned {pins pl : List (Addr × Obj)} {σ : St} {H : Hp} {s : Shared} (I : Inv X (pins ++ pl) σ H s) : Inv X pins σ H s := I.pins_of fun p hp => I.pin p (List.mem_append_right _ (List.mem_append_left _ hp))
theorem ps_for {iter : Expr} {body : List Stmt} {wi : TI} {g : TG} {tb : TS} {pos : Pos} (hp : PassesOwn (model X.prog X.w) X.A X.env X.xe) (hc : X.calm = true) (hi : PI X tg iter wi) (hg : PG X tg g) (hb : PSs X body tb)
    (hs : ∀ x, foldedSetIterable iter X.env x = pure x := by intro _; rfl) : PS X (.For tg iter body [] pos) (tFor wi g tb) := by
  intro pins s σ H D I h
  refine wpAny_For (thn (hi pins s σ H _ I h) fun v s1 h1 => thn h1 fun itv s2 h2 => ?_) hs
  obtain ⟨it, fp, tn, J, H2, e, I2, T, st2, f2, W, ⟨m0, w0⟩, turn⟩ := h2
  subst e
  have stat : ∀ {H' : Hp}, (∀ b ∈ fp, H' b = none) → ∀ b ∈ fp, FpOk X pins H' b := fun hn b hb => ⟨hn b hb, (f2 b hb).2⟩
  refine codeAny_forLoop_any (fun n s' => ∃ i σ' H', Inv X pins σ' H' s' ∧ tn i s'.heap ∧ (∀ b ∈ fp, H' b = none) ∧ W i n σ' H') ?_ m0 ⟨0, σ, H2, I2, st2, fun b hb => (f2 b hb).1, w0⟩
  rintro n s3 ⟨i, σ3, H3, I3, st3, fr3, w3⟩
  rcases turn i n σ3 H3 w3 with ⟨stop, qn⟩ | ⟨go, N, hN, step⟩
  · refine wpAny_passesOwn hp (thn (T.done X rfl rfl rfl hc i pins s3 σ3 H3 X.xe I3 (stat fr3) st3 stop) fun r s4 ⟨hr, I4⟩ => ?_)
    subst hr
    exact wpAny_execs_nil ⟨σ3, H3, I4, qn⟩
  · refine wpAny_passesOwn hp (thn (T.item X rfl rfl rfl hc i pins s3 σ3 H3 X.xe I3 (stat fr3) st3 go) fun r s4 ⟨u, hr, h4⟩ => ?_)
    subst hr
    refine wpAny_passesOwn hp (thn h4 fun _ s5 ⟨x, H5, I5, r5, y5, st5, fr5⟩ => ?_)
    have I5' := I5.pinned (stat fr5) (T.obj _ _ st5)
    refine wpAny_passesOwn hp (thn (hg _ s5 σ3 H5 x u _ I5' r5 (step x H5 y5)) fun _ s6 ⟨σ6, H6, I6, q6⟩ => ?_)
    refine wpAny_passesOwn hp (thn (hb _ s6 σ6 H6 _ I6 q6) fun f s7 q7 => ?_)
    have again : ∀ {σ7 : St} {H7 : Hp}, Inv X (pins ++ pinsAt fp s5.heap) σ7 H7 s7 → N σ7 H7 → ∃ m, m < n ∧ ∃ i σ' H', Inv X pins σ' H' s7 ∧ tn i s7.heap ∧ (∀ b ∈ fp, H' b = none) ∧ W i m σ' H' := fun {σ7 H7} I7 n7 => by
      obtain ⟨m', hm, w7⟩ := hN σ7 H7 n7
      refine ⟨m', hm, i + 1, σ7, H7, I7.unpinned, T.keep _ _ _ st5 fun b hb o e => (I7.pin (b, o) (List.mem_append_right _ (List.mem_append_right _ (mem_pinsAt hb e)))).1, fun b hb => ?_, w7⟩
      obtain ⟨o, e, d⟩ := T.obj _ _ st5 b hb
      exact (I7.pin (b, o) (List.mem_append_right _ (List.mem_append_right _ (mem_pinsAt hb e)))).2.1
    cases f with
    | next => obtain ⟨σ7, H7, I7, n7⟩ := q7; exact again I7 n7
    | cont => obtain ⟨σ7, H7, I7, n7⟩ := q7; exact again I7 n7
    | brk => obtain ⟨σ7, H7, I7, q7⟩ := q7; exact ⟨σ7, H7, I7.unpinned, q7⟩
    | ret v => obtain ⟨x7, σ7, H7, I7, r7, q7⟩ := q7; exact ⟨x7, σ7, H7, I7.unpinned, r7, q7⟩
end
theorem for_list {K : PySem.W.Frag} {a : Addr} {xs : List V} {g : TG} {tb : TS} {D : Ends} {σ : St} {H : Hp} (Pv : Nat → St → Hp → Prop) (h0 : Pv 0 σ H) (hl : ∀ i σ H, i ≤ xs.length → Pv i σ H → SqL K H a xs)
    (hs : ∀ i x σ H, xs[i]? = some x → Pv i σ H → g x σ H fun σ2 H2 => tb { D with nx := Pv (i + 1), ct := Pv (i + 1), bk := D.nx } σ2 H2) (hd : ∀ σ H, Pv xs.length σ H → D.nx σ H) :
    ∃ W : Nat → Nat → St → Hp → Prop, (∃ m, W 0 m σ H) ∧ ∀ i m σ H, W i m σ H →
      ((Itl K a).stop i H ∧ D.nx σ H) ∨ ((Itl K a).go i H ∧ ∃ N : St → Hp → Prop, (∀ σ' H', N σ' H' → ∃ m', m' < m ∧ W (i + 1) m' σ' H') ∧ ∀ x H', (Itl K a).yld i H x H' → g x σ H' fun σ2 H2 => tb { D with nx := N, ct := N, bk := D.nx } σ2 H2) := by
  refine ⟨fun i m σ H => m = xs.length - i ∧ i ≤ xs.length ∧ Pv i σ H, ⟨xs.length, by simp, Nat.zero_le _, h0⟩, ?_⟩
  rintro i m σ H ⟨rfl, hi, p⟩
  have q := hl i σ H hi p
  by_cases hlt : i < xs.length
  · refine .inr ⟨⟨xs, xs[i], q, by simp [hlt]⟩, Pv (i + 1), fun σ' H' p' => ⟨xs.length - (i + 1), by omega, rfl, hlt, p'⟩, fun x H' y => ?_⟩
    obtain ⟨e, y⟩ := y
    subst e
    exact hs i x σ _ (y xs q) p
  · have e : i = xs.length := by omega
    subst e
    exact .inl ⟨⟨xs, q, Nat.le_refl _⟩, hd σ H p⟩
theorem for_tup {K : PySem.W.Frag} {a : Addr} {xs : List V} {g : TG} {tb : TS} {D : Ends} {σ : St} {H : Hp} (Pv : Nat → St → Hp → Prop) (h0 : Pv 0 σ H) (hl : ∀ i σ H, i ≤ xs.length → Pv i σ H → SqT K H a xs)
    (hs : ∀ i x σ H, xs[i]? = some x → Pv i σ H → g x σ H fun σ2 H2 => tb { D with nx := Pv (i + 1), ct := Pv (i + 1), bk := D.nx } σ2 H2) (hd : ∀ σ H, Pv xs.length σ H → D.nx σ H) :
    ∃ W : Nat → Nat → St → Hp → Prop, (∃ m, W 0 m σ H) ∧ ∀ i m σ H, W i m σ H →
      ((Itt K a).stop i H ∧ D.nx σ H) ∨ ((Itt K a).go i H ∧ ∃ N : St → Hp → Prop, (∀ σ' H', N σ' H' → ∃ m', m' < m ∧ W (i + 1) m' σ' H') ∧ ∀ x H', (Itt K a).yld i H x H' → g x σ H' fun σ2 H2 => tb { D with nx := N, ct := N, bk := D.nx } σ2 H2) := by
  refine ⟨fun i m σ H => m = xs.length - i ∧ i ≤ xs.length ∧ Pv i σ H, ⟨xs.length, by simp, Nat.zero_le _, h0⟩, ?_⟩
  rintro i m σ H ⟨rfl, hi, p⟩
  have q := hl i σ H hi p
  by_cases hlt : i < xs.length
  · refine .inr ⟨⟨xs, xs[i], q, by simp [hlt]⟩, Pv (i + 1), fun σ' H' p' => ⟨xs.length - (i + 1), by omega, rfl, hlt, p'⟩, fun x H' y => ?_⟩
    obtain ⟨e, y⟩ := y
    subst e
    exact hs i x σ _ (y xs q) p
  · have e : i = xs.length := by omega
    subst e
    exact .inl ⟨⟨xs, q, Nat.le_refl _⟩, hd σ H p⟩
theorem for_range {lo : Int} {n : Nat} {g : TG} {tb : TS} {D : Ends} {σ : St} {H : Hp} (Pv : Nat → St → Hp → Prop) (h0 : Pv 0 σ H)
    (hs : ∀ i σ H, i < n → Pv i σ H → g (.int (lo + i)) σ H fun σ2 H2 => tb { D with nx := Pv (i + 1), ct := Pv (i + 1), bk := D.nx } σ2 H2) (hd : ∀ σ H, Pv n σ H → D.nx σ H) :
    ∃ W : Nat → Nat → St → Hp → Prop, (∃ m, W 0 m σ H) ∧ ∀ i m σ H, W i m σ H →
      ((Itr lo n).stop i H ∧ D.nx σ H) ∨ ((Itr lo n).go i H ∧ ∃ N : St → Hp → Prop, (∀ σ' H', N σ' H' → ∃ m', m' < m ∧ W (i + 1) m' σ' H') ∧ ∀ x H', (Itr lo n).yld i H x H' → g x σ H' fun σ2 H2 => tb { D with nx := N, ct := N, bk := D.nx } σ2 H2) := by
  refine ⟨fun i m σ H => m = n - i ∧ i ≤ n ∧ Pv i σ H, ⟨n, by simp, Nat.zero_le _, h0⟩, ?_⟩
  rintro i m σ H ⟨rfl, hi, p⟩
  by_cases hlt : i < n
  · refine .inr ⟨hlt, Pv (i + 1), fun σ' H' p' => ⟨n - (i + 1), by omega, rfl, hlt, p'⟩, fun x H' y => ?_⟩
    obtain ⟨e, y⟩ := y
    subst e y
    exact hs i σ _ hlt p
  · have e : i = n := by omega
    subst e
    exact .inl ⟨Nat.le_refl _, hd σ H p⟩
theorem while_by {c : TT} {tb : TS} {D : Ends} {σ : St} {H : Hp} (Pv : St → Hp → Prop) (μ : St → Hp → Nat) (h0 : Pv σ H)
    (hs : ∀ σ H, Pv σ H → c σ H fun b H1 => if b = true then tb { D with nx := fun σ' H' => Pv σ' H' ∧ μ σ' H' < μ σ H, ct := fun σ' H' => Pv σ' H' ∧ μ σ' H' < μ σ H, bk := D.nx } σ H1 else D.nx σ H1)
    (mono : ∀ σ H Q Q', (∀ b H1, Q b H1 → Q' b H1) → c σ H Q → c σ H Q') : tWhile c tb D σ H := by
  refine ⟨fun m σ H => m = μ σ H ∧ Pv σ H, ⟨_, rfl, h0⟩, ?_⟩
  rintro m σ H ⟨rfl, p⟩
  refine mono σ H _ _ (fun b H1 q => ?_) (hs σ H p)
  cases b with
  | true => exact ⟨_, fun σ' H' ⟨p', l⟩ => ⟨_, l, rfl, p'⟩, q⟩
  | false => exact q
end L2
namespace L2
open PySem PySem.Spec PyProof.Rows
abbrev R2 := V → V → Hp → VK → Prop
def OpR (X : Cx) (f : Value → Value → Sem Value) (r : R2) : Prop :=
  ∀ (pins : List (Addr × Obj)) (s : Shared) (σ : St) (H : Hp) (x y : V) (v u : Value) (Q : VK), Inv X pins σ H s → RelV x v → RelV y u → r x y H Q →
    wpAny (model X.prog X.w) X.A (f v u) (EP X pins σ Q) X.xe s
def UnR (X : Cx) (f : Value → Sem Value) (r : V → Hp → VK → Prop) : Prop :=
  ∀ (pins : List (Addr × Obj)) (s : Shared) (σ : St) (H : Hp) (x : V) (v : Value) (Q : VK), Inv X pins σ H s → RelV x v → r x H Q →
    wpAny (model X.prog X.w) X.A (f v) (EP X pins σ Q) X.xe s
def CallR (X : Cx) (f : Value) (r : List V → Hp → VK → Prop) : Prop :=
  ∀ (pins : List (Addr × Obj)) (s : Shared) (σ : St) (H : Hp) (xs : List V) (us : List Value) (Q : VK), Inv X pins σ H s → Vals xs us → r xs H Q →
    wpAny (model X.prog X.w) X.A (call f us) (EP X pins σ Q) X.xe s
def tOp (r : R2) (ta tb : TE) : TE := fun σ H Q => ta σ H fun x H1 => tb σ H1 fun y H2 => r x y H2 Q
def tUn (r : V → Hp → VK → Prop) (ta : TE) : TE := fun σ H Q => ta σ H fun x H1 => r x H1 Q
def rI (C : Int → Int → Prop) (g : Int → Int → V) : R2 := fun x y H Q => ∃ i j, x = .int i ∧ y = .int j ∧ C i j ∧ Q (g i j) H
def rI0 (g : Int → Int → V) : R2 := fun x y H Q => ∃ i j, x = .int i ∧ y = .int j ∧ Q (g i j) H
def rU (g : Int → V) : V → Hp → VK → Prop := fun x H Q => ∃ i, x = .int i ∧ Q (g i) H
section
variable {X : Cx} {a b c : Expr} {ta tb tc : TE} {pos : Pos}
theorem binT (ha : PE X a ta) (hb : PE X b tb) {pins : List (Addr × Obj)} {s : Shared} {σ : St} {H : Hp} {R : V → V → Hp → Prop} (I : Inv X pins σ H s)
    (h : ta σ H fun x H1 => tb σ H1 fun y H2 => R x y H2) {Q : Value → Shared → Prop} {f : Value → Value → Sem Value}
    (hf : ∀ v u s2 x y H2, Inv X pins σ H2 s2 → RelV x v → RelV y u → R x y H2 → wpAny (model X.prog X.w) X.A (f v u) Q X.xe s2) :
    wpAny (model X.prog X.w) X.A (eval a X.env) (fun v s₁ => wpAny (model X.prog X.w) X.A (eval b X.env) (fun u s₂ => wpAny (model X.prog X.w) X.A (f v u) Q X.xe s₂) X.xe s₁) X.xe s := by
  refine thn (ha pins s σ H _ I h) fun v s1 ⟨x, H1, I1, r1, q1⟩ => ?_
  refine thn (hb pins s1 σ H1 _ I1 q1) fun u s2 ⟨y, H2, I2, r2, q2⟩ => ?_
  exact hf v u s2 x y H2 I2 r1 r2 q2
theorem pe_op {op : Operator} {r : R2} (ho : OpR X (binaryOp op) r) (ha : PE X a ta) (hb : PE X b tb) : PE X (.BinOp a op b pos) (tOp r ta tb) := by
  intro pins s σ H Q I h
  exact wpAny_BinOp (binT ha hb I h fun v u s2 x y H2 I2 rx ry q => ho pins s2 σ H2 x y v u Q I2 rx ry q)
theorem pe_un {op : UnaryOp} {r : V → Hp → VK → Prop} (ho : UnR X (unaryOp op) r) (ha : PE X a ta) : PE X (.UnaryOp op a pos) (tUn r ta) := by
  intro pins s σ H Q I h
  exact UnaryOp_ (thn (ha pins s σ H _ I h) fun v s1 ⟨x, H1, I1, r1, q1⟩ => ho pins s1 σ H1 x v Q I1 r1 q1)
theorem opI {f : Value → Value → Sem Value} {C : Int → Int → Prop} {g : Int → Int → Int}
    (rule : ∀ (i j : Int) (t u : Tok) (s : Shared) (Q : Value → Shared → Prop) (E : Value → Shared → Prop), C i j → Q (.int (g i j) s.toks) { s with toks := s.toks + 1 } → wpAny (model X.prog X.w) X.A (f (.int i t) (.int j u)) Q E s) :
    OpR X f (rI C fun i j => .int (g i j)) := by
  intro pins s σ H x y v u Q I rx ry h
  obtain ⟨i, j, rfl, rfl, hc, q⟩ := h
  obtain ⟨t, rfl⟩ := rx
  obtain ⟨t', rfl⟩ := ry
  exact rule i j t t' s _ _ hc ⟨.int (g i j), H, I.tok _, ⟨_, rfl⟩, q⟩
theorem opI0 {f : Value → Value → Sem Value} {g : Int → Int → Int}
    (rule : ∀ (i j : Int) (t u : Tok) (s : Shared) (Q : Value → Shared → Prop) (E : Value → Shared → Prop), Q (.int (g i j) s.toks) { s with toks := s.toks + 1 } → wpAny (model X.prog X.w) X.A (f (.int i t) (.int j u)) Q E s) :
    OpR X f (rI0 fun i j => .int (g i j)) := by
  intro pins s σ H x y v u Q I rx ry h
  obtain ⟨i, j, rfl, rfl, q⟩ := h
  obtain ⟨t, rfl⟩ := rx
  obtain ⟨t', rfl⟩ := ry
  exact rule i j t t' s _ _ ⟨.int (g i j), H, I.tok _, ⟨_, rfl⟩, q⟩
theorem opB0 {f : Value → Value → Sem Value} {g : Int → Int → Bool}
    (rule : ∀ (i j : Int) (t u : Tok) (s : Shared) (Q : Value → Shared → Prop) (E : Value → Shared → Prop), Q (.bool (g i j)) s → wpAny (model X.prog X.w) X.A (f (.int i t) (.int j u)) Q E s) :
    OpR X f (rI0 fun i j => .bl (g i j)) := by
  intro pins s σ H x y v u Q I rx ry h
  obtain ⟨i, j, rfl, rfl, q⟩ := h
  obtain ⟨t, rfl⟩ := rx
  obtain ⟨t', rfl⟩ := ry
  exact rule i j t t' s _ _ ⟨.bl (g i j), H, I, rfl, q⟩
def CDiv (i j : Int) : Prop := 0 < j ∧ j < 1073741824
def CPow (i j : Int) : Prop := 0 ≤ j ∧ j ≤ 1000000 ∧ i.natAbs < 2 ^ 64
def CMul (i j : Int) : Prop := (-(2 ^ 64) < i ∧ i < 2 ^ 64) ∨ (-(2 ^ 64) < j ∧ j < 2 ^ 64)
theorem CMul.ok {i j : Int} (h : CMul i j) : IntMulOk i j := by
  rcases h with ⟨h1, h2⟩ | ⟨h1, h2⟩
  · exact .of_left (intBits_le_64 h1 h2)
  · exact .of_right (intBits_le_64 h1 h2)
theorem op_add : OpR X (binaryOp .Add) (rI0 fun i j => .int (i + j)) := opI0 fun _ _ _ _ _ _ _ q => add_int q
theorem op_sub : OpR X (binaryOp .Sub) (rI0 fun i j => .int (i - j)) := opI0 fun _ _ _ _ _ _ _ q => sub_int q
theorem op_mul : OpR X (binaryOp .Mult) (rI CMul fun i j => .int (i * j)) := opI fun _ _ _ _ _ _ _ hc q => mul_int q hc.ok
theorem op_fdiv : OpR X (binaryOp .FloorDiv) (rI CDiv fun i j => .int (i / j)) := opI fun i j _ _ _ _ _ hc q => by
  have h1 : (0 : Int) < j := hc.1
  have h2 : j < 1073741824 := hc.2
  exact floordiv_int (by omega) (by rw [Int.fdiv_eq_ediv_of_nonneg i (by omega)]; exact q) (.inl (PyProof.noPylong_small (by omega)))
theorem op_mod : OpR X (binaryOp .Mod) (rI (fun _ j => 0 < j) fun i j => .int (i % j)) := opI fun i j _ _ _ _ _ hc q => by
  have h1 : (0 : Int) < j := hc
  exact mod_int' (by omega) (by rw [Int.fmod_eq_emod_of_nonneg i (by omega)]; exact q)
theorem op_pow : OpR X (binaryOp .Pow) (rI CPow fun i j => .int (i ^ j.toNat)) := opI fun _ _ _ _ _ _ _ hc q => pow_int_small hc.1 hc.2.1 hc.2.2 q
theorem unI {f : Value → Sem Value} {g : Int → Int}
    (rule : ∀ (i : Int) (t : Tok) (s : Shared) (Q : Value → Shared → Prop) (E : Value → Shared → Prop), Q (.int (g i) s.toks) { s with toks := s.toks + 1 } → wpAny (model X.prog X.w) X.A (f (.int i t)) Q E s) :
    UnR X f (rU fun i => .int (g i)) := by
  intro pins s σ H x v Q I rx h
  obtain ⟨i, rfl, q⟩ := h
  obtain ⟨t, rfl⟩ := rx
  exact rule i t s _ _ ⟨.int (g i), H, I.tok _, ⟨_, rfl⟩, q⟩
theorem un_neg : UnR X (unaryOp .USub) (rU fun i => .int (-i)) := unI fun _ _ _ _ _ q => neg_int q
end
def scal : V → V → Bool
  | .non, .non => true | .non, .int _ => true | .int _, .non => true | .non, .bl _ => true | .bl _, .non => true | .non, .str _ => true | .str _, .non => true
  | .int _, .int _ => true | .bl _, .bl _ => true | .str _, .str _ => true | .byt _, .byt _ => true
  | .int _, .str _ => true | .str _, .int _ => true | .bl _, .str _ => true | .str _, .bl _ => true
  | _, _ => false
def rEq : R2 := fun x y H Q => scal x y = true ∧ Q (.bl (decide (x = y))) H
def rNe : R2 := fun x y H Q => scal x y = true ∧ Q (.bl (!decide (x = y))) H
theorem dec_int {i j : Int} : decide (V.int i = V.int j) = (i == j) := by
  rw [Bool.eq_iff_iff]
  simp
theorem dec_bl {i j : Bool} : decide (V.bl i = V.bl j) = (i == j) := by
  rw [Bool.eq_iff_iff]
  simp
theorem dec_str {i j : Str} : decide (V.str i = V.str j) = (i == j) := by
  rw [Bool.eq_iff_iff]
  simp
theorem dec_byt {i j : Array UInt8} : decide (V.byt i = V.byt j) = (i.toList == j.toList) := by
  rw [Bool.eq_iff_iff]
  cases i
  cases j
  simp
section
variable {X : Cx} {a b c : Expr} {ta tb tc : TE} {pos : Pos}
theorem fin_bl {pins : List (Addr × Obj)} {σ : St} {H : Hp} {s : Shared} {Q : VK} {k k' : Bool} (I : Inv X pins σ H s) (q : Q (.bl k) H) (e : k = k') : EP X pins σ Q (.bool k') s := by
  subst e
  exact ⟨.bl k, H, I, rfl, q⟩
theorem op_eq : OpR X (compareOp .Eq) rEq := by
  intro pins s σ H x y v u Q I rx ry h
  obtain ⟨hs, q⟩ := h
  cases x with
  | non =>
    cases rx
    cases y with
    | non => cases ry; exact PySem.EqNone.eq_none_none (fin_bl I q (by simp))
    | bl j => cases ry; exact PySem.EqNone.eq_none_bool (fin_bl I q (by simp))
    | int j => obtain ⟨t', rfl⟩ := ry; exact PySem.EqNone.eq_none_int (fin_bl I q (by simp))
    | str j => obtain ⟨t', rfl⟩ := ry; exact PySem.EqNone.eq_none_str (fin_bl I q (by simp))
    | _ => exact absurd (show false = true from hs) Bool.false_ne_true
  | bl i =>
    cases rx
    cases y with
    | non => cases ry; exact PySem.EqNone.eq_bool_none (fin_bl I q (by simp))
    | bl j => cases ry; exact eq_bool (fin_bl I q dec_bl)
    | str j => obtain ⟨t', rfl⟩ := ry; exact PySem.EqMixed.eq_bool_str (fin_bl I q (by simp))
    | _ => exact absurd (show false = true from hs) Bool.false_ne_true
  | int i =>
    obtain ⟨t, rfl⟩ := rx
    cases y with
    | non => cases ry; exact PySem.EqNone.eq_int_none (fin_bl I q (by simp))
    | int j => obtain ⟨t', rfl⟩ := ry; exact eq_int (fin_bl I q dec_int)
    | str j => obtain ⟨t', rfl⟩ := ry; exact PySem.EqMixed.eq_int_str (fin_bl I q (by simp))
    | _ => exact absurd (show false = true from hs) Bool.false_ne_true
  | str i =>
    obtain ⟨t, rfl⟩ := rx
    cases y with
    | non => cases ry; exact PySem.EqNone.eq_str_none (fin_bl I q (by simp))
    | bl j => cases ry; exact PySem.EqMixed.eq_str_bool (fin_bl I q (by simp))
    | int j => obtain ⟨t', rfl⟩ := ry; exact PySem.EqMixed.eq_str_int (fin_bl I q (by simp))
    | str j => obtain ⟨t', rfl⟩ := ry; exact eq_str (fin_bl I q dec_str)
    | _ => exact absurd (show false = true from hs) Bool.false_ne_true
  | byt i =>
    obtain ⟨t, rfl⟩ := rx
    cases y with
    | byt j => obtain ⟨t', rfl⟩ := ry; exact PySem.W.eq_bytes (fin_bl I q dec_byt)
    | _ => exact absurd (show false = true from hs) Bool.false_ne_true
  | _ => cases y <;> exact absurd (show false = true from hs) Bool.false_ne_true
theorem op_ne : OpR X (compareOp .NotEq) rNe := by
  intro pins s σ H x y v u Q I rx ry h
  obtain ⟨hs, q⟩ := h
  cases x with
  | non =>
    cases rx
    cases y with
    | non => cases ry; exact PySem.EqNone.ne_none_none (fin_bl I q (by simp))
    | bl j => cases ry; exact PySem.EqNone.ne_none_bool (fin_bl I q (by simp))
    | int j => obtain ⟨t', rfl⟩ := ry; exact PySem.EqNone.ne_none_int (fin_bl I q (by simp))
    | str j => obtain ⟨t', rfl⟩ := ry; exact PySem.EqNone.ne_none_str (fin_bl I q (by simp))
    | _ => exact absurd (show false = true from hs) Bool.false_ne_true
  | bl i =>
    cases rx
    cases y with
    | non => cases ry; exact PySem.EqNone.ne_bool_none (fin_bl I q (by simp))
    | bl j => cases ry; exact ne_bool (fin_bl I q (congrArg not dec_bl))
    | str j => obtain ⟨t', rfl⟩ := ry; exact PySem.EqMixed.ne_bool_str (fin_bl I q (by simp))
    | _ => exact absurd (show false = true from hs) Bool.false_ne_true
  | int i =>
    obtain ⟨t, rfl⟩ := rx
    cases y with
    | non => cases ry; exact PySem.EqNone.ne_int_none (fin_bl I q (by simp))
    | int j => obtain ⟨t', rfl⟩ := ry; exact ne_int (fin_bl I q (congrArg not dec_int))
    | str j => obtain ⟨t', rfl⟩ := ry; exact PySem.EqMixed.ne_int_str (fin_bl I q (by simp))
    | _ => exact absurd (show false = true from hs) Bool.false_ne_true
  | str i =>
    obtain ⟨t, rfl⟩ := rx
    cases y with
    | non => cases ry; exact PySem.EqNone.ne_str_none (fin_bl I q (by simp))
    | bl j => cases ry; exact PySem.EqMixed.ne_str_bool (fin_bl I q (by simp))
    | int j => obtain ⟨t', rfl⟩ := ry; exact PySem.EqMixed.ne_str_int (fin_bl I q (by simp))
    | str j => obtain ⟨t', rfl⟩ := ry; exact ne_str (fin_bl I q (congrArg not dec_str))
    | _ => exact absurd (show false = true from hs) Bool.false_ne_true
  | byt i =>
    obtain ⟨t, rfl⟩ := rx
    cases y with
    | byt j => obtain ⟨t', rfl⟩ := ry; exact PySem.W.ne_bytes (fin_bl I q (congrArg not dec_byt))
    | _ => exact absurd (show false = true from hs) Bool.false_ne_true
  | _ => cases y <;> exact absurd (show false = true from hs) Bool.false_ne_true
theorem op_lt : OpR X (compareOp .Lt) (rI0 fun i j => .bl (decide (i < j))) := opB0 fun _ _ _ _ _ _ _ q => lt_int q
theorem op_gt : OpR X (compareOp .Gt) (rI0 fun i j => .bl (decide (j < i))) := opB0 fun _ _ _ _ _ _ _ q => gt_int q
theorem op_isN : OpR X (compareOp .Is) (fun x y H Q => y = .non ∧ Q (.bl (decide (x = .non))) H) := by
  intro pins s σ H x y v u Q I rx ry h
  obtain ⟨rfl, q⟩ := h
  cases ry
  refine is_none_gen (fin_bl I q ?_)
  cases x <;> first
    | (cases rx; rfl)
    | (obtain ⟨t, rfl⟩ := rx; rfl)
theorem op_notN : OpR X (compareOp .IsNot) (fun x y H Q => y = .non ∧ Q (.bl (!decide (x = .non))) H) := by
  intro pins s σ H x y v u Q I rx ry h
  obtain ⟨rfl, q⟩ := h
  cases ry
  refine isnot_none_gen (fin_bl I q ?_)
  cases x <;> first
    | (cases rx; rfl)
    | (obtain ⟨t, rfl⟩ := rx; rfl)
theorem nomark (b : Expr) {op : CmpOp} (h : op ≠ .In := by decide) (h2 : op ≠ .NotIn := by decide) : behindInMarks op b = false := by
  have e1 : (op == CmpOp.In) = false := by cases op <;> first | rfl | exact absurd rfl h
  have e2 : (op == CmpOp.NotIn) = false := by cases op <;> first | rfl | exact absurd rfl h2
  cases b <;> simp [behindInMarks, e1, e2]
theorem pe_cmpR {op : CmpOp} {r : R2} (ho : OpR X (compareOp op) r) (ha : PE X a ta) (hb : PE X b tb) (hm : behindInMarks op b = false) : PE X (.Compare a [op] [b] pos) (tOp r ta tb) := by
  intro pins s σ H Q I h
  exact wpAny_Compare1 (binT ha hb I h fun v u s2 x y H2 I2 rx ry q => ho pins s2 σ H2 x y v u Q I2 rx ry q) hm
def tTest (t : TE) : TT := fun σ H Q => t σ H fun x H' => ∃ k, x = .bl k ∧ Q k H'
theorem pt_cmpR {op : CmpOp} {r : R2} (ho : OpR X (compareOp op) r) (ha : PE X a ta) (hb : PE X b tb) (hm : behindInMarks op b = false) : PT X (.Compare a [op] [b] pos) (tTest (tOp r ta tb)) := by
  intro pins s σ H Q I h
  refine wpAny_isTrue_Compare1 (thn (ha pins s σ H _ I h) fun v s1 ⟨x, H1, I1, r1, q1⟩ => thn (hb pins s1 σ H1 _ I1 q1) fun u s2 ⟨y, H2, I2, r2, q2⟩ =>
    thn (ho pins s2 σ H2 x y v u _ I2 r1 r2 q2) fun c s3 ⟨z, H3, I3, r3, k, e, q3⟩ => ?_) hm
  subst e
  cases r3
  exact wpAny_truthy_bool ⟨H3, I3, q3⟩
theorem line63 : (sizeLine : Nat) < 2 ^ 63 := by rw [sizeLine_eq]; decide
theorem vals1 {x : V} {us : List Value} (r : Vals [x] us) : ∃ u, us = [u] ∧ RelV x u := by
  cases r with
  | cons r1 r2 => cases r2; exact ⟨_, rfl, r1⟩
theorem vals2 {x y : V} {us : List Value} (r : Vals [x, y] us) : ∃ u w', us = [u, w'] ∧ RelV x u ∧ RelV y w' := by
  cases r with
  | cons r1 r2 =>
    cases r2 with
    | cons r3 r4 => cases r4; exact ⟨_, _, rfl, r1, r3⟩
end
end L2
namespace L2
open PySem PySem.Spec PyProof.Rows
structure ObjM (h : Heap) (x dx C : Addr) (mA : Str → Option Value) : Prop where
  obj : h.get? x = some (PySem.W.instObj C dx)
  ns : h.Ns1 dx mA
  ne : dx ≠ x
theorem lookIn_ns {h : Heap} {dx : Addr} {mA : Str → Option Value} (n : h.Ns1 dx mA) : ∃ od, h.get? dx = some od ∧ ∀ name, PySem.W.lookIn name od = some (mA name) := by
  obtain ⟨o, es, ep, ho, hd, hk, _, hm⟩ := n
  refine ⟨o, ho, fun name => ?_⟩
  have e := hm name
  unfold nsFind findBy at e
  rw [← Array.find?_toList] at e
  unfold PySem.W.lookIn
  rw [hd]
  dsimp only
  split
  · rename_i y q
    rw [q] at e
    exact congrArg some e
  · rename_i q
    rw [q] at e
    have a : es.toList.any (·.refKey) = false := by
      rw [List.any_eq_false]
      intro y hy
      obtain ⟨z, t, hkey⟩ := hk y (Array.mem_toList_iff.mp hy)
      simp [DictEntry.refKey, hkey]
    have a' : ¬ es.toList.any (·.refKey) = true := by rw [a]; exact Bool.false_ne_true
    rw [if_neg a']
    exact congrArg some e
theorem ObjM.look {h : Heap} {x dx C : Addr} {mA : Str → Option Value} (I : ObjM h x dx C mA) : ∃ od, PySem.W.InstAt h x (PySem.W.instObj C dx) C (some od) ∧ ∀ name, PySem.W.lookIn name od = some (mA name) :=
  let ⟨od, ho, hl⟩ := lookIn_ns I.ns
  ⟨od, ⟨I.obj, rfl, rfl, ho⟩, hl⟩
section
variable {prog : Program} {w : World} {A : Around} {E : Value → Shared → Prop} {s : Shared} {K : PySem.W.Frag} {x dx C f : Addr} {mA : Str → Option Value} {name : Str} {v : Value}
end
section
variable {P : Program} {w : World} {H H' : Hp} {h h' : Heap} {a C dx : Addr} {fs fs' : List (Str × V)}
theorem ins_get (hok : HOk P w H h) (e : H a = some (.ins C dx fs)) : ∃ mA, ObjM h a dx C mA ∧ (∀ f, RelO (fs.lookup f) (mA f)) ∧ PySem.Within mA (fs.map (·.1)) ∧ fs.length ≤ 1000 ∧ H dx = some (.own a) := by
  obtain ⟨d, z, ne, ob, mA, n, r, q⟩ := (show ObjOk P w H h a (.ins C dx fs) from hok a _ e)
  exact ⟨mA, ⟨ob, n, ne⟩, r, q, z, d⟩
end
structure Cls (K : PySem.W.Frag) (C : Addr) : Prop where
  pg : PySem.W.plainGet K C Str.empty = true
  hd : PySem.W.hasDictIn K C = true
  po : PySem.W.plainOver K C = true
  sa : PySem.W.findIn K (.ref C) "__setattr__" = some (some (.builtin "object.__setattr__"))
theorem Cls.get {K : PySem.W.Frag} {C : Addr} (c : Cls K C) (f : Str) : PySem.W.plainGet K C f = true := c.pg
structure Con (K : PySem.W.Frag) (C : Addr) (f : Str) (v : V) (u : Value) : Prop where
  at_ : PySem.W.findIn K (.ref C) f = some (some u)
  rel : RelV v u
  get : PySem.W.specialIn K u "__get__" = some none
  cp : PySem.W.copiedNames.contains f = false
structure Meth (K : PySem.W.Frag) (C : Addr) (m : Str) (f : Addr) : Prop where
  at_ : PySem.W.findIn K (.ref C) m = some (some (.ref f))
  fn : PySem.W.isFn K (.ref f) = true
  kp : PySem.W.keepIn K (.ref f) = true
section
variable {X : Cx} {pins : List (Addr × Obj)} {σ : St} {H : Hp} {s : Shared} {a C dx : Addr} {fs : List (Str × V)} {f : Str} {v : V} {A : Around} {E : Value → Shared → Prop}
end
section
variable {X : Cx} {o e value : Expr} {f : Str} {pos pos' tpos : Pos} {ta tv : TE}
end
section
variable {X : Cx} {pins : List (Addr × Obj)} {σ : St} {H : Hp} {s : Shared} {A : Around} {E : Value → Shared → Prop} {Q : Value → Shared → Prop} {c : Value} {b : Bool}
inductive TyOf (K : PySem.W.Frag) (H : Hp) : V → Value → Prop where
  | non : TyOf K H .non (.type "NoneType")
  | bl (x : Bool) : TyOf K H (.bl x) (.type "bool")
  | int (i : Int) : TyOf K H (.int i) (.type "int")
  | str (x : Str) : TyOf K H (.str x) (.type "str")
  | flt (x : UInt64) : TyOf K H (.flt x) (.type "float")
  | lst {a : Addr} {xs : List V} (e : H a = some (.lst xs)) : TyOf K H (.ref a) (.type "list")
  | frz {a : Addr} {o : Obj} {xs : List V} (e : H a = some (.frz o (.lst xs))) : TyOf K H (.ref a) (.type "list")
  | tup {a : Addr} {xs : List V} (e : H a = some (.tup xs)) : TyOf K H (.ref a) (.type "tuple")
  | dK {a : Addr} {kvs : List (Key × V)} (e : H a = some (.dK kvs)) : TyOf K H (.ref a) (.type "dict")
  | dT {a : Addr} {kvs : List (List Key × V)} (e : H a = some (.dT kvs)) : TyOf K H (.ref a) (.type "dict")
  | ins {a C dx : Addr} {fs : List (Str × V)} (e : H a = some (.ins C dx fs)) (cl : Cls K C) (ha : PySem.W.findIn K (.ref C) "__class__" = some (some (.builtin "object.__class__")))
      (hn : PySem.W.specialIn K (.builtin "object.__class__") "__get__" = some (some (.builtin "getset_descriptor.__get__"))) (htk : PySem.W.takesIn K (.builtin "object.__class__") = some true)
      (hm : PySem.W.mroIn K C (.type "object") = some true) : TyOf K H (.ref a) (.ref C)
theorem isinst_ok {x : V} {u t : Value} (I : Inv X pins σ H s) (rx : RelV x u) (ty : TyOf X.K H x t) (e : PySem.W.kitOne X.K t c = some b) (h : ∀ tk, Q (.bool b) { s with toks := tk }) :
    wpAny (model X.prog X.w) A (call (.builtin "isinstance") [u, c]) Q E s := by
  cases ty with
  | non => cases (show u = Value.none from rx); exact PySem.W.kia_one PySem.W.kitx_none I.kIn True.intro e (fun z => nomatch z) h
  | bl y => cases (show u = Value.bool y from rx); exact PySem.W.kia_one PySem.W.kitx_bool I.kIn True.intro e (fun z => nomatch z) h
  | int i => obtain ⟨t, q⟩ := (show ∃ t, u = Value.int i t from rx); cases q; exact PySem.W.kia_one PySem.W.kitx_int I.kIn True.intro e (fun z => nomatch z) h
  | str y => obtain ⟨t, q⟩ := (show ∃ t, u = Value.str y t from rx); cases q; exact PySem.W.kia_one PySem.W.kitx_str I.kIn True.intro e (fun z => nomatch z) h
  | flt y => obtain ⟨t, q⟩ := (show ∃ t, u = Value.float y t from rx); cases q; exact PySem.W.kia_one PySem.W.kitx_float I.kIn True.intro e (fun z => nomatch z) h
  | @lst a xs ea =>
    cases (show u = Value.ref a from rx)
    obtain ⟨_, _, n, _, h1⟩ := (show ObjOk X.prog X.w H s.heap a (.lst xs) from I.hok a _ ea)
    exact PySem.W.kia_one PySem.W.kitx_list I.kIn ⟨_, h1, rfl⟩ e (fun z => nomatch z) h
  | @frz a ob xs ea =>
    cases (show u = Value.ref a from rx)
    obtain ⟨_, _, _, n, _, h1⟩ := (show ObjOk X.prog X.w H s.heap a (.frz ob (.lst xs)) from I.hok a _ ea)
    exact PySem.W.kia_one PySem.W.kitx_list I.kIn ⟨_, h1, rfl⟩ e (fun z => nomatch z) h
  | @tup a xs ea =>
    cases (show u = Value.ref a from rx)
    obtain ⟨_, _, _, p⟩ := (show ObjOk X.prog X.w H s.heap a (.tup xs) from I.hok a _ ea)
    obtain ⟨o, h1, h2, _⟩ := p
    exact PySem.W.kia_one PySem.W.kitx_tuple I.kIn ⟨o, h1, h2⟩ e (fun z => nomatch z) h
  | @dK a kvs ea =>
    cases (show u = Value.ref a from rx)
    obtain ⟨_, _, vs, _, p⟩ := (show ObjOk X.prog X.w H s.heap a (.dK kvs) from I.hok a _ ea)
    obtain ⟨o, es, ep, h1, h2, _⟩ := p
    exact PySem.W.kia_one PySem.W.kitx_dict I.kIn ⟨o, h1, h2.1⟩ e (fun z => nomatch z) h
  | @dT a kvs ea =>
    cases (show u = Value.ref a from rx)
    obtain ⟨_, _, xs, _, o, es, ep, h1, h2, _⟩ := (show ObjOk X.prog X.w H s.heap a (.dT kvs) from I.hok a _ ea)
    exact PySem.W.kia_one PySem.W.kitx_dict I.kIn ⟨o, h1, h2.1⟩ e (fun z => nomatch z) h
  | @ins a C dx fs ea cl ha hn htk hm =>
    cases (show u = Value.ref a from rx)
    obtain ⟨mA, O, _⟩ := ins_get I.hok ea
    obtain ⟨od, J, _⟩ := O.look
    exact PySem.W.kia_one (PySem.W.kitx_own (cl.get _) cl.hd ha hn htk hm) I.kIn J e (fun z => nomatch z) h
end
end L2
namespace L2
open PySem PySem.Spec PyProof.Rows
structure Room (k : Nat) (A : Around) : Prop where
  hd : A.handled = none
  dp : A.depth + 3 * k + 5 < recursionLimit
  un : A.units + 16 * k + 200 < cLine
theorem Room.mono {j k : Nat} {A : Around} (r : Room k A) (h : j ≤ k) : Room j A := ⟨r.hd, by have := r.dp; omega, by have := r.un; omega⟩
theorem Room.deeper {k : Nat} {A : Around} (r : Room (k + 1) A) (env : Env) : Room k (A.deeper env) :=
  ⟨r.hd, by have := r.dp; show A.depth + 1 + 3 * k + 5 < _; omega, by have := r.un; show A.units + 3 + 16 * k + 200 < _; omega⟩
theorem Room.in1 {k : Nat} {A : Around} (r : Room (k + 1) A) : Room k A.in1 :=
  ⟨r.hd, by have := r.dp; show A.depth + 3 * k + 5 < _; omega, by have := r.un; show A.units + 1 + 16 * k + 200 < _; omega⟩
theorem Room.depth {k : Nat} {A : Around} (r : Room k A) : A.depth < recursionLimit := by have := r.dp; omega
theorem Room.units {k : Nat} {A : Around} (r : Room k A) : A.units + 64 < cLine := by have := r.un; omega
def tNil : TA := fun _ H Q => Q [] H
def tCons (ta : TE) (tr : TA) : TA := fun σ H Q => ta σ H fun x H1 => tr σ H1 fun xs H2 => Q (x :: xs) H2
section
variable {X : Cx} {e : Expr} {es : List Expr} {te : TE} {t : TA} {pos : Pos}
theorem pa_nil : PA X [] tNil := fun _ _ _ _ H Q I h => Calls.spliced_nil ⟨[], H, I, .nil, h⟩
theorem pa_cons (ha : PE X e te) (hr : PA X es t) (hs : starEach (e :: es) X.env = (false, eval e X.env) :: starEach es X.env := by rfl) : PA X (e :: es) (tCons te t) := by
  intro pos pins s σ H Q I h
  rw [hs]
  show wpAny _ _ (spliced ((false, eval e X.env) :: backTo pos (starEach es X.env))) _ _ s
  refine Calls.spliced_cons (thn (ha pins s σ H _ I h) fun u s1 ⟨x, H1, I1, r1, q1⟩ => ?_)
  exact thn (hr pos pins s1 σ H1 _ I1 q1) fun us s2 ⟨xs, H2, I2, r2, q2⟩ => ⟨x :: xs, H2, I2, .cons r1 r2, q2⟩
def tTup (t : TA) : TE := fun σ H Q => t σ H fun xs H1 => xs.length ≤ sizeLine ∧ ∀ p, H1 p = none → Q (.ref p) (upd H1 p (.tup xs))
def tLst (t : TA) : TE := fun σ H Q => t σ H fun xs H1 => xs.length ≤ sizeLine ∧ ∀ p, H1 p = none → Q (.ref p) (upd H1 p (.lst xs))
theorem pe_tup {x1} (h : PA X es t) : PE X (.Tuple es x1 pos) (tTup t) := by
  intro pins s σ H Q I hq
  refine wpAny_Tuple_spliced (thn (h pos pins s σ H _ I hq) fun us s1 ⟨xs, H1, I1, r, z, q⟩ => ⟨by rw [← r.length]; exact z, ?_⟩)
  have hf : H1 s1.heap.objs.size = none := I1.hok.fresh (Nat.le_refl _)
  refine ⟨.ref s1.heap.objs.size, upd H1 s1.heap.objs.size (.tup xs), I1.laid (t' := s1.toks) (fun b u e => Heap.get?_push_of_some _ e) (Nat.le_refl _) ?_, rfl, q _ hf⟩
  exact ⟨z, us, r, ⟨_, Heap.get?_push_size _ rfl, rfl, _, rfl⟩⟩
theorem pe_lst (h : PA X es t) : PE X (.List es pos) (tLst t) := by
  intro pins s σ H Q I hq
  refine wpAny_List_spliced (thn (h pos pins s σ H _ I hq) fun us s1 ⟨xs, H1, I1, r, z, q⟩ => ⟨by rw [← r.length]; exact z, ?_⟩)
  have hf : H1 s1.heap.objs.size = none := I1.hok.fresh (Nat.le_refl _)
  refine ⟨.ref s1.heap.objs.size, upd H1 s1.heap.objs.size (.lst xs), I1.laid (t' := s1.toks) (fun b u e => Heap.get?_push_of_some _ e) (Nat.le_refl _) ?_, rfl, q _ hf⟩
  exact ⟨z, us, 0, r, Heap.get?_push_size _ rfl⟩
end
abbrev Sp := List V → Hp → VK → XK → Prop
abbrev CXT := List Env → Hp → Shared → XK → Value → Shared → Prop
structure Env0 (P : Program) (w : World) (K : PySem.W.Frag) (mg : Str → Option Value) (base : Heap) (A : Around) (outer : List Env) (s : Shared) (H : Hp) : Prop where
  frames : A.frames = some outer
  mod : Mod K mg base
  bs : ∀ b o, base.get? b = some o → s.heap.get? b = some o ∧ H b = none
  bsz : base.objs.size ≤ s.heap.objs.size
  funs : s.heap.FunFrames base outer
  frf : ∀ b ∈ frs outer, H b = none
  hok : HOk P w H s.heap
  bare : AllBare s.gens
def CE (outer : List Env) (P : Program) (w : World) (H : Hp) (s : Shared) (Q : VK) (u : Value) (s' : Shared) : Prop :=
  ∃ v H', s'.os = s.os ∧ AllBare s'.gens ∧ Un (frs outer) [] H H' s.heap s'.heap ∧ HOk P w H' s'.heap ∧ RelV v u ∧ Q v H'
def CR (CX : CXT) (outer : List Env) (P : Program) (w : World) (H : Hp) (s : Shared) (Q : VK) (E : XK) (r : Result) (s' : Shared) : Prop :=
  match r with
  | .ok (.ret u) => CE outer P w H s Q u s'
  | .ok _ => False
  | .error e => CX outer H s E e s'
structure FnOk (P : Program) (w : World) (K : PySem.W.Frag) (mg : Str → Option Value) (base : Heap) (CX : CXT) (k : Nat) (f : Addr) (fd : FuncData) (ps : List Str) (sp : Sp) : Prop where
  len : ∀ vs H Q E, sp vs H Q E → vs.length = ps.length
  run : ∀ (A : Around) (outer : List Env) (s : Shared) (H : Hp) (args : Args) (us : List Value) (vs : List V) (Q : VK) (E : XK), Room k A → Env0 P w K mg base A outer s H → BindsTo s fd args (ps.zip us) → Vals vs us → sp vs H Q E →
    codeAny (model P w) A (.call (.ref f) args) (CR CX outer P w H s Q E) s
theorem FnOk.mono {P : Program} {w : World} {K : PySem.W.Frag} {mg : Str → Option Value} {base : Heap} {CX : CXT} {j k : Nat} {f : Addr} {fd : FuncData} {ps : List Str} {sp : Sp} (F : FnOk P w K mg base CX j f fd ps sp) (h : j ≤ k) :
    FnOk P w K mg base CX k f fd ps sp := ⟨F.len, fun A outer s H args us vs Q E hr => F.run A outer s H args us vs Q E (hr.mono h)⟩
theorem FnOk.imp {P : Program} {w : World} {K : PySem.W.Frag} {mg : Str → Option Value} {base : Heap} {CX : CXT} {k : Nat} {f : Addr} {fd : FuncData} {ps : List Str} {sp sp' : Sp} (F : FnOk P w K mg base CX k f fd ps sp)
    (h : ∀ vs H Q E, sp' vs H Q E → sp vs H Q E) : FnOk P w K mg base CX k f fd ps sp' :=
  ⟨fun vs H Q E q => F.len vs H Q E (h _ _ _ _ q), fun A outer s H args us vs Q E hr he hb hv hs => F.run A outer s H args us vs Q E hr he hb hv (h _ _ _ _ hs)⟩
theorem Env0.in1 {P : Program} {w : World} {K : PySem.W.Frag} {mg : Str → Option Value} {base : Heap} {A : Around} {outer : List Env} {s : Shared} {H : Hp} (e : Env0 P w K mg base A outer s H) :
    Env0 P w K mg base A.in1 outer s H := ⟨e.frames, e.mod, e.bs, e.bsz, e.funs, e.frf, e.hok, e.bare⟩
section
variable {X : Cx} {pins : List (Addr × Obj)} {σ : St} {H : Hp} {s s' : Shared}
theorem Inv.env0 (I : Inv X pins σ H s) : Env0 X.prog X.w X.K X.mg X.base X.A X.stack s H :=
  ⟨I.ok.frames, I.ok.mod, I.bs, Nat.le_trans I.ok.bsz I.sz, I.stack, I.stkFree, I.hok, I.bare⟩
theorem Inv.after {Q : VK} {u : Value} (I : Inv X pins σ H s) (h : CE X.stack X.prog X.w H s Q u s') : EP X pins σ Q u s' := by
  obtain ⟨v, H', os, bare, un, hok, r, q⟩ := h
  obtain ⟨hh, g, d, t, os'⟩ := s'
  obtain rfl : os' = s.os := os
  exact ⟨v, H', I.call (h' := hh) (g' := g) (d' := d) (t' := t) (ch := []) un hok bare (fun b z => absurd z (by simp)), r, q⟩
end
def tCall (sp : Sp) (dvs : List V) (E : XK) (t : TA) : TE := fun σ H Q => t σ H fun vs H1 => sp (vs ++ dvs) H1 Q E
def Binds (K : PySem.W.Frag) (fd : FuncData) (ps : List Str) (ds : List Value) : Prop :=
  ∀ (s : Shared) (us : List Value), K.In s.heap → (us ++ ds).length = ps.length → BindsTo s fd ⟨us, []⟩ (ps.zip (us ++ ds))
theorem Binds.all {K : PySem.W.Frag} {fd : FuncData} {ps : List Str} (h : ∀ us : List Value, us.length = ps.length → bindArgs fd ⟨us, []⟩ = pure (ps.zip us)) : Binds K fd ps [] := fun s us _ hl => by
  rw [List.append_nil] at hl ⊢
  exact .of_eq (h us hl)
def Passes (CX : CXT) (X : Cx) (E : XK) : Prop := ∀ (pins : List (Addr × Obj)) (σ : St) (H : Hp) (s : Shared) (e : Value) (s' : Shared), Inv X pins σ H s → CX X.stack H s E e s' → X.xe e s'
section
variable {X : Cx} {CX : CXT} {k : Nat} {f C : Addr} {fd : FuncData} {ps : List Str} {sp : Sp} {dvs : List V} {ds : List Value} {E : XK} {x m : Str} {p pos apos : Pos} {e o : Expr} {es : List Expr} {ta : TE} {t : TA}
theorem run_fn {pins : List (Addr × Obj)} {σ : St} {H : Hp} {s : Shared} {Q : VK} {us : List Value} {vs : List V} (F : FnOk X.prog X.w X.K X.mg X.base CX k f fd ps sp) (hr : Room k X.A) (hb : Binds X.K fd ps ds) (hd : Vals dvs ds) (hx : Passes CX X E)
    (I : Inv X pins σ H s) (r : Vals vs us) (h : sp (vs ++ dvs) H Q E) : wpAny (model X.prog X.w) X.A (call (.ref f) us) (EP X pins σ Q) X.xe s := by
  have r2 : Vals (vs ++ dvs) (us ++ ds) := r.append hd
  have hl : (us ++ ds).length = ps.length := by rw [← r2.length]; exact F.len _ _ _ _ h
  refine wpAny_call (codeAny_mono (F.run X.A X.stack s H ⟨us, []⟩ (us ++ ds) (vs ++ dvs) Q E hr I.env0 (hb s us I.kIn hl) r2 h) fun r s' hq => ?_)
  cases r with
  | error e => exact hx pins σ H s e s' I hq
  | ok fl =>
    cases fl with
    | ret u => exact I.after hq
    | next => exact False.elim hq
    | brk => exact False.elim hq
    | cont => exact False.elim hq
theorem pe_call (F : FnOk X.prog X.w X.K X.mg X.base CX k f fd ps sp) (hr : Room k X.A) (hg : Gl X x) (hm : X.mg x = some (.ref f)) (hk : PySem.W.keepIn X.K (.ref f) = true) (hb : Binds X.K fd ps ds) (hd : Vals dvs ds) (hx : Passes CX X E)
    (ha : PA X (e :: es) t) (hdb : (x == ("__debug__" : Str)) = false := by decide) (he : starEach (e :: es) X.env = (false, eval e X.env) :: starEach es X.env := by rfl) (hpl : (backTo pos (starEach es X.env)).any (·.1) = false := by rfl) :
    PE X (.Call (.Name x p) (e :: es) [] pos) (tCall sp dvs E t) := by
  intro pins s σ H Q I h
  refine wpAny_Call_Name_kw (ld_glob I hg hm ?_ hdb)
  refine PySem.W.callWith_K (h₀ := X.base) I.ok.mod.kin hk (thn (ha pos pins s σ H _ I h) fun us s1 ⟨vs, H1, I1, r, q⟩ => ⟨I1.kIn, ?_⟩) he hpl
  exact run_fn F hr hb hd hx I1 r q
structure Mk (K : PySem.W.Frag) (C f : Addr) : Prop where
  makes : PySem.W.makesIn K C = true
  init : PySem.W.findIn K (.ref C) "__init__" = some (some (.ref f))
  fn : PySem.W.isFn K (.ref f) = true
  kp : PySem.W.keepIn K (.ref C) = true
end
section
variable {X : Cx} {CX : CXT} {k : Nat} {f C : Addr} {fd : FuncData} {ps ks : List Str} {sp : Sp} {E : XK} {x m : Str} {p pos apos kpos : Pos} {e o : Expr} {es : List Expr} {kws : List Keyword} {te ta : TE} {t tk : TA} {nm : Option Str}
structure KBinds (K : PySem.W.Frag) (fd : FuncData) (ps ks : List Str) (g : List Value → List Value → List Value) (gV : List V → List V → List V) : Prop where
  to : ∀ (s : Shared) (us ws : List Value), K.In s.heap → (g us ws).length = ps.length → BindsTo s fd ⟨us, ks.zip ws⟩ (ps.zip (g us ws))
  rel : ∀ {vs : List V} {us : List Value} {zs : List V} {ws : List Value}, Vals vs us → Vals zs ws → Vals (gV vs zs) (g us ws)
variable {g : List Value → List Value → List Value} {gV : List V → List V → List V}
end
structure FnScope (N P : List Str) (sc : Scope) : Prop where
  kind : sc.kind = .function
  co : sc.isCoroutine = false
  gen : sc.isGenerator = false
  nd : N.Nodup
  pre : N.take P.length = P
  par : ∀ x ∈ P, sc.names.lookup x = some .local ∨ sc.names.lookup x = some .cell
  nofree : ∀ y ∈ sc.names, y.2 ≠ .free
theorem bindL_out {kindOf : Str → Option NameKind} {x : Str} : ∀ {binds : List (Str × Value)} {m : Str → Option Value}, (∀ v, (x, v) ∉ binds) → bindL kindOf binds m x = m x
  | [], _, _ => rfl
  | (n, v) :: r, m, h => by
    unfold bindL
    rw [bindL_out fun w hw => h w (List.mem_cons_of_mem _ hw)]
    split
    · have : x ≠ n := by rintro rfl; exact h v List.mem_cons_self
      simp [this]
    · rfl
theorem bindC_out {kindOf : Str → Option NameKind} {x : Str} : ∀ {binds : List (Str × Value)} {m : Str → Option Value}, (∀ v, (x, v) ∉ binds) → bindC kindOf binds m x = m x
  | [], _, _ => rfl
  | (n, v) :: r, m, h => by
    unfold bindC
    rw [bindC_out fun w hw => h w (List.mem_cons_of_mem _ hw)]
    split
    · rfl
    · have : x ≠ n := by rintro rfl; exact h v List.mem_cons_self
      simp [this]
theorem bindL_get {kindOf : Str → Option NameKind} {x : Str} {v : Value} : ∀ {P : List Str} {vs : List Value} {i : Nat} {m : Str → Option Value}, P.Nodup → P[i]? = some x → vs[i]? = some v → kindOf x = some .local →
    bindL kindOf (P.zip vs) m x = some v
  | [], _, _, _, _, h, _, _ => by simp at h
  | _ :: _, [], _, _, _, _, h, _ => by simp at h
  | p :: P, w :: vs, 0, m, nd, h1, h2, hk => by
    simp at h1 h2; subst h1; subst h2
    show bindL kindOf ((p, w) :: P.zip vs) m p = _
    unfold bindL
    rw [bindL_out fun v hv => (List.nodup_cons.mp nd).1 (List.of_mem_zip hv).1, if_pos hk]
    simp
  | p :: P, w :: vs, i + 1, m, nd, h1, h2, hk => by
    show bindL kindOf ((p, w) :: P.zip vs) m x = _
    unfold bindL
    exact bindL_get (i := i) (List.nodup_cons.mp nd).2 (by simpa using h1) (by simpa using h2) hk
theorem bindC_get {kindOf : Str → Option NameKind} {x : Str} {v : Value} : ∀ {P : List Str} {vs : List Value} {i : Nat} {m : Str → Option Value}, P.Nodup → P[i]? = some x → vs[i]? = some v → kindOf x ≠ some .local →
    bindC kindOf (P.zip vs) m x = some v
  | [], _, _, _, _, h, _, _ => by simp at h
  | _ :: _, [], _, _, _, _, h, _ => by simp at h
  | p :: P, w :: vs, 0, m, nd, h1, h2, hk => by
    simp at h1 h2; subst h1; subst h2
    show bindC kindOf ((p, w) :: P.zip vs) m p = _
    unfold bindC
    rw [bindC_out fun v hv => (List.nodup_cons.mp nd).1 (List.of_mem_zip hv).1, if_neg hk]
    simp
  | p :: P, w :: vs, i + 1, m, nd, h1, h2, hk => by
    show bindC kindOf ((p, w) :: P.zip vs) m x = _
    unfold bindC
    exact bindC_get (i := i) (List.nodup_cons.mp nd).2 (by simpa using h1) (by simpa using h2) hk
def start (N : List Str) (vs : List V) : St := vs.map some ++ List.replicate (N.length - vs.length) none
def cxOf (CX : CXT) (P : Program) (w : World) (K : PySem.W.Frag) (mg : Str → Option Value) (base : Heap) (N : List Str) (qual : Str) (scope : Scope) (f : Addr) (cd : Value) (A : Around) (outer : List Env) (s : Shared) (H : Hp) (E : XK) : Cx where
  prog := P
  w := w
  K := K
  mg := mg
  base := base
  A := A.deeper (envOfC qual scope s.heap.objs.size f cd)
  N := N
  s₀ := s
  H₀ := H
  env := envOfC qual scope s.heap.objs.size f cd
  outer := outer
  stack := envOfC qual scope s.heap.objs.size f cd :: outer
  ex := []
  calm := true
  fn := fun _ => true
  pn := []
  xe := fun e s' => wpAny (model P w) (A.deeper (envOfC qual scope s.heap.objs.size f cd)) (leaving (envOfC qual scope s.heap.objs.size f cd) e) (fun _ s'' => CX outer H s E e s'') (fun e' s'' => CX outer H s E e' s'') s'
theorem cell_has {sc : Scope} {n : Nat} {x : Str} (h : sc.names.lookup x = some .cell) : ∃ c, (cellsFrom n sc.names []).lookup x = some c := by
  have q := PySem.W.cellsFrom_some sc.names n [] (.inl h)
  exact Option.isSome_iff_exists.mp q
theorem inv_start {CX : CXT} {P : Program} {w : World} {K : PySem.W.Frag} {mg : Str → Option Value} {base : Heap} {N ps : List Str} {qual : Str} {scope : Scope} {f : Addr} {cd : Value} {A : Around} {outer : List Env} {s s1 : Shared} {H : Hp} {E : XK} {us : List Value} {vs : List V}
    (S : FnScope N ps scope) (hd : A.handled = none) (e0 : Env0 P w K mg base A outer s H) (hl : vs.length = ps.length) (r : Vals vs us)
    (x : InCallC s s.heap.objs.size (bindL (envOfC qual scope s.heap.objs.size f cd).kindOf (ps.zip us) fun _ => none) (cellsFrom (s.heap.objs.size + 1) scope.names []) (bindC (envOfC qual scope s.heap.objs.size f cd).kindOf (ps.zip us) fun _ => none) s1) :
    Inv (cxOf CX P w K mg base N qual scope f cd A outer s H E) [] (start N vs) H s1 := by
  have hpl : ps.length ≤ N.length := by have := congrArg List.length S.pre; rw [List.length_take] at this; omega
  obtain ⟨h1, tk, rfl, hk⟩ := x.done
  have noA : ∀ b : Addr, b ∉ (cxOf CX P w K mg base N qual scope f cd A outer s H E).ex := fun b z => absurd (show b ∈ ([] : List Addr) from z) (by simp)
  refine ⟨⟨e0.mod, S.kind, rfl, rfl, Nat.le_refl _, fun y z c h1 h2 => ?_, fun y hy => ?_, fun y c _ h => ?_, fun _ => hd, Around.frames_deeper e0.frames, .inr ⟨rfl, rfl⟩, fun b z => absurd z (noA b), e0.bs, e0.bsz, fun b _ _ => noA b, fun b z => absurd z (noA b), e0.funs, e0.frf⟩,
    rfl, e0.bare, Un.kept hk, ⟨_, x.toInCall.ns, fun i y v h1 h2 h3 => ?_⟩, fun y c h => ⟨_, x.cell y c h⟩, e0.hok.fresh (Nat.le_refl _), fun y c h => ?_, fun p hp => absurd (show p ∈ ([] : List (Addr × Obj)) from hp) (by simp), e0.hok.kept hk, ?_⟩
  · exact name_of_addr x.apart (PySem.mem_of_lookup h1) (PySem.mem_of_lookup h2)
  · have hy : scope.names.lookup y = some .cell ∨ scope.names.lookup y = some .free := hy
    rcases hy with hy | hy
    · exact cell_has hy
    · exact absurd rfl (S.nofree _ (PySem.mem_of_lookup hy))
  · exact Nat.le_of_lt (x.above y c (PySem.mem_of_lookup h))
  · have hi : i < vs.length := by
      unfold start at h2
      by_cases hi : i < vs.length
      · exact hi
      · rw [List.getElem?_append_right (by simpa using hi)] at h2
        rw [List.getElem?_replicate] at h2
        split at h2 <;> cases h2
    have ha : vs[i]? = some v := by
      unfold start at h2
      rw [List.getElem?_append_left (by simpa using hi), List.getElem?_map] at h2
      cases e : vs[i]? with
      | none => rw [e] at h2; cases h2
      | some a => rw [e] at h2; cases h2; rfl
    obtain ⟨u, hu, rv⟩ := r.get ha
    have hp : ps[i]? = some y := by
      rw [← S.pre, List.getElem?_take_of_lt (by omega)]; exact h1
    have ndP : ps.Nodup := by rw [← S.pre]; exact S.nd.sublist (List.take_sublist _ _)
    refine ⟨u, rv, ?_⟩
    rcases S.par y (List.mem_of_getElem? hp) with k | k
    · exact .inl ⟨k, bindL_get ndP hp hu k⟩
    · obtain ⟨c, e⟩ := cell_has (n := s.heap.objs.size + 1) k
      refine .inr ⟨.inl k, c, e, ?_⟩
      have q := x.cell y c e
      rw [bindC_get ndP hp hu (by show scope.names.lookup y ≠ _; rw [k]; decide)] at q
      exact q
  · exact e0.hok.fresh (Nat.le_of_lt (x.above y c (PySem.mem_of_lookup h)))
  · unfold start
    show _ = N.length
    rw [List.length_append, List.length_map, List.length_replicate]
    omega
theorem fn_of {CX : CXT} {P : Program} {w : World} {K : PySem.W.Frag} {mg : Str → Option Value} {base : Heap} {k : Nat} {f : Addr} {name qual : Str} {params : Arguments} {body : List Stmt} {scope : Scope} {dV kV doc pm cdv ct oc : Value} {an od : Option Addr}
    {osl : Array (Option Value)} {N ps : List Str} {sp : Sp} (lk : K.lookup f = some ⟨oc, od, .func (PySem.W.fnOf name qual params body scope dV kV doc pm an cdv ct), osl⟩) (hcd : PySem.W.codeIn K cdv qual = true) (S : FnScope N ps scope)
    (len : ∀ vs H Q E, sp vs H Q E → vs.length = ps.length)
    (hbody : ∀ (A : Around) (outer : List Env) (s : Shared) (H : Hp) (vs : List V) (Q : VK) (E : XK), Room k (A.deeper (envOfC qual scope s.heap.objs.size f cdv)) → sp vs H Q E →
      ∃ t, PSs (cxOf CX P w K mg base N qual scope f cdv A outer s H E) body t ∧ t { nx := fun _ H' => Q .non H', rt := Q } (start N vs) H) :
    FnOk P w K mg base CX (k + 1) f (PySem.W.fnOf name qual params body scope dV kV doc pm an cdv ct) ps sp := by
  refine ⟨len, fun A outer s H args us vs Q E hr e0 hb r hsp => ?_⟩
  have hl := len _ _ _ _ hsp
  have KX : K.In s.heap := e0.mod.kin.keeps fun b o e => (e0.bs b o e).1
  have lim : s.heap.NoLimit := e0.mod.nolimit.keeps fun b o e => (e0.bs b o e).1
  have hkind : ∀ y ∈ ps.zip us, scope.names.lookup y.1 = some .local ∨ (scope.names.lookup y.1 = some .cell ∧ ((cellsFrom (s.heap.objs.size + 1) scope.names []).lookup y.1).isSome = true) := fun ⟨n, v⟩ hy => by
    rcases S.par n (List.of_mem_zip hy).1 with q | q
    · exact .inl q
    · exact .inr ⟨q, PySem.W.cellsFrom_some _ _ _ (.inl q)⟩
  refine codeAny_call_function hr.depth (KX _ _ lk) rfl S.co S.gen rfl (PySem.W.codeRec_of KX hcd) (hb _ _ _ _ ?_)
  refine wpAny_newFunctionEnv_cells S.kind hkind fun env he s1 x => ?_
  subst he
  refine ⟨lim.keeps x.toInCall.keep, codeAny_func ?_⟩
  obtain ⟨t, ht, hq⟩ := hbody A outer s H vs Q E (hr.deeper _) hsp
  have I : Inv (cxOf CX P w K mg base N qual scope f cdv A outer s H E) [] (start N vs) H s1 := inv_start S hr.hd e0 hl r x
  refine wpAny_mono (ht [] s1 (start N vs) H _ I hq) (fun fl s' hs => ?_) fun e s' hs => hs
  have fin : ∀ {σ' : St} {H' : Hp} {v : V} {u : Value}, Inv (cxOf CX P w K mg base N qual scope f cdv A outer s H E) [] σ' H' s' → RelV v u → Q v H' → CE outer P w H s Q u s' :=
    fun {σ' H' v u} J rv q => ⟨v, H', J.os, J.bare, J.base, J.hok, rv, q⟩
  cases fl with
  | ret u =>
    obtain ⟨v, σ', H', J, rv, q⟩ := hs
    exact fin J rv q
  | next =>
    obtain ⟨σ', H', J, q⟩ := hs
    exact fin (v := V.non) (u := Value.none) J rfl q
  | brk =>
    obtain ⟨_, _, _, q⟩ := hs
    exact False.elim q
  | cont =>
    obtain ⟨_, _, _, q⟩ := hs
    exact False.elim q
end L2
namespace L2
open PySem PySem.Spec PyProof.Rows
section
variable {X : Cx} {x : Str} {p pos : Pos} {e : Expr} {es : List Expr} {t : TA} {id T : String} {r : List V → Hp → VK → Prop}
def tCB (r : List V → Hp → VK → Prop) (t : TA) : TE := fun σ H Q => t σ H fun vs H1 => r vs H1 Q
theorem pe_callB (hc : CallR X (.builtin id) r) (hg : Gl X x) (hm : X.mg x = none) (hv : bootBuiltins x = some (.builtin id)) (ha : PA X (e :: es) t) (hn : x ≠ "__name__" := by decide) (hdb : (x == ("__debug__" : Str)) = false := by decide)
    (he : starEach (e :: es) X.env = (false, eval e X.env) :: starEach es X.env := by rfl) (hpl : (backTo pos (starEach es X.env)).any (·.1) = false := by rfl) : PE X (.Call (.Name x p) (e :: es) [] pos) (tCB r t) := by
  intro pins s σ H Q I h
  refine wpAny_Call_Name_kw (ld_blt I hg hm hv ?_ hn hdb)
  exact PyProof.Rows.callWith_builtin1 (thn (ha pos pins s σ H _ I h) fun us s1 ⟨vs, H1, I1, r1, q1⟩ => hc pins s1 σ H1 vs us Q I1 r1 q1) he hpl
theorem pe_callTy (hc : CallR X (.type T) r) (hg : Gl X x) (hm : X.mg x = none) (hv : bootBuiltins x = some (.type T)) (ha : PA X (e :: es) t) (hn : x ≠ "__name__" := by decide) (hdb : (x == ("__debug__" : Str)) = false := by decide)
    (he : starEach (e :: es) X.env = (false, eval e X.env) :: starEach es X.env := by rfl) (hpl : (backTo pos (starEach es X.env)).any (·.1) = false := by rfl) : PE X (.Call (.Name x p) (e :: es) [] pos) (tCB r t) := by
  intro pins s σ H Q I h
  refine wpAny_Call_Name_kw (ld_blt I hg hm hv ?_ hn hdb)
  exact PyProof.Rows.callWith_type1 (thn (ha pos pins s σ H _ I h) fun us s1 ⟨vs, H1, I1, r1, q1⟩ => hc pins s1 σ H1 vs us Q I1 r1 q1) he hpl
end
end L2
namespace HT
open PySem PyProof.Rows
section
open PySem.SeqAt
open PySem.AutoSeq1 (wpAny_loadPart')
open PySem.MeetsSeq PySem.MeetsSeq2 PySem.MeetsSeq3
end
section
variable {prog : Program} {w : World} {A : Around} {E : Value → Shared → Prop} {s : Shared}
theorem cat_tup {t b : Addr} {vs ws : List Value} {Q : Value → Shared → Prop} (ht : IsTup s.heap t vs.toArray) (hb : IsTup s.heap b ws.toArray) (hv : vs ≠ [])
    (h1 : ws = [] → Q (.ref t) s) (h2 : ws ≠ [] → Q (.ref s.heap.objs.size) { s with heap := s.heap.push { cls := .type "tuple", data := .seq (vs ++ ws).toArray } })
    (hsz : vs.length + ws.length ≤ sizeLine) : wpAny (model prog w) A (binaryOp .Add (.ref t) (.ref b)) Q E s := by
  obtain ⟨⟨cls, dd, data, sl⟩, ho, hc, n, hd⟩ := id ht
  obtain ⟨⟨cls2, dd2, data2, sl2⟩, ho2, hc2, n2, hd2⟩ := id hb
  simp only at hc hd hc2 hd2
  subst hc hd hc2 hd2
  have e : vs.toArray ++ ws.toArray = (vs ++ ws).toArray := by simp
  by_cases hw : ws = []
  · exact concat_meets ⟨_, ho, rfl⟩ ⟨_, ho2, rfl⟩ noFill_tuple_add seq_tuple_add PySem.F.slot_tuple_add PySem.F.entry_tuple_add (PySem.F.args_tuple_add_2 _ _)
      (tuple_addW1 t b vs.toArray ws.toArray n n2 dd dd2 sl sl2 (by simpa using hv) (by simp [hw])) ⟨ho, ho2, h1 hw⟩
  · refine concat_meets ⟨_, ho, rfl⟩ ⟨_, ho2, rfl⟩ noFill_tuple_add seq_tuple_add PySem.F.slot_tuple_add PySem.F.entry_tuple_add (PySem.F.args_tuple_add_2 _ _)
      (tuple_addW2 t b vs.toArray ws.toArray n n2 dd dd2 sl sl2 (by simpa using hv) (by simpa using hw) (by rw [List.size_toArray, List.size_toArray]; exact hsz)) ⟨ho, ho2, ?_⟩
    rw [e]
    exact h2 hw
def sIx (n d : Nat) : Option Int → Nat
  | none => d
  | some v => if v < 0 then (v + (n : Int)).toNat else min v.toNat n
theorem sIx_none (n d : Nat) : sIx n d none = d := rfl
theorem sIx_nat (n d k : Nat) : sIx n d (some (k : Int)) = min k n := by
  show (if (k : Int) < 0 then ((k : Int) + (n : Int)).toNat else min (k : Int).toNat n) = min k n
  rw [if_neg (by omega), Int.toNat_natCast]
theorem sIx_le (n d : Nat) (hd : d ≤ n) (o : Option Int) : sIx n d o ≤ n := by
  cases o with
  | none => exact hd
  | some v =>
    show (if v < 0 then (v + (n : Int)).toNat else min v.toNat n) ≤ n
    by_cases hv : v < 0
    · rw [if_pos hv]; omega
    · rw [if_neg hv]; exact Nat.min_le_right _ _
theorem clip_eq (v : Int) (n d : Nat) : (if v < 0 then max (v + (n : Int)) 0 else min v (n : Int)) = ((sIx n d (some v) : Nat) : Int) := by
  show (if v < 0 then max (v + (n : Int)) 0 else min v (n : Int)) = (((if v < 0 then (v + (n : Int)).toNat else min v.toNat n) : Nat) : Int)
  by_cases hv : v < 0
  · simp only [if_pos hv]; omega
  · simp only [if_neg hv]; omega
theorem adjust_gen (lo hi : Option Int) (n : Nat) : Builtin.Slice.sliceAdjust lo hi 1 (n : Int) = (((sIx n 0 lo : Nat) : Int), ((sIx n n hi : Nat) : Int)) := by
  have h1 : ¬ ((1 : Int) < 0) := by omega
  unfold Builtin.Slice.sliceAdjust
  simp only [h1, if_false]
  refine Prod.ext ?_ ?_
  · cases lo with
    | none => rfl
    | some v => exact clip_eq v n 0
  · cases hi with
    | none => rfl
    | some v => exact clip_eq v n n
theorem places_gen (i j : Nat) : Builtin.Slice.slicePlaces (i : Int) (j : Int) 1 = j - i := by
  unfold Builtin.Slice.slicePlaces
  have h1 : (1 : Int) > 0 := by omega
  simp only [h1, if_true, Int.ediv_one]
  split <;> omega
theorem slicePart_ {v : Value} {o : Option Int} {Q : Option Int → Shared → Prop} (p : IsPart v o) (h : Q o s) : wpAny (model prog w) A (Builtin.Slice.slicePartIndex v) Q E s := by
  cases p with
  | none => exact slicePart_none h
  | int i t => exact slicePart_int h
theorem sliceApplied_gen {sl : Addr} {vl vu : Value} {lo hi : Option Int} {n : Nat} {Q : Int × Int × Nat → Shared → Prop} (hs : s.heap.IsSliceOf sl vl vu .none) (pl : IsPart vl lo) (pu : IsPart vu hi)
    (h : Q (((sIx n 0 lo : Nat) : Int), 1, sIx n n hi - sIx n 0 lo) s) : wpAny (model prog w) A (Builtin.Slice.sliceApplied (.ref sl) (pure (n : Int))) Q E s := by
  obtain ⟨os, hos, hcs, hds⟩ := id hs
  unfold Builtin.Slice.sliceApplied Builtin.Slice.sliceFields
  refine wpAny_bind (wpAny_bind (wpAny_field hos hds (x := vl) rfl (wpAny_bind (wpAny_field hos hds (x := vu) rfl (wpAny_bind (wpAny_field hos hds (x := .none) rfl (wpAny_pure ?_)))))))
  refine wpAny_bind (slicePart_none ?_)
  show wpAny _ _ (if ((1 : Int) == 0) = true then _ else _) _ _ s
  rw [if_neg (by decide)]
  refine wpAny_bind (slicePart_ pl (wpAny_bind (slicePart_ pu (wpAny_bind (wpAny_pure ?_)))))
  show wpAny _ _ (match Builtin.Slice.sliceAdjust lo hi 1 (n : Int) with | (lo, hi) => pure (lo, (1 : Int), Builtin.Slice.slicePlaces lo hi 1)) _ _ s
  rw [adjust_gen lo hi n]
  show wpAny _ _ (pure (((sIx n 0 lo : Nat) : Int), (1 : Int), Builtin.Slice.slicePlaces ((sIx n 0 lo : Nat) : Int) ((sIx n n hi : Nat) : Int) 1)) _ _ s
  rw [places_gen]
  exact wpAny_pure h
theorem pick_gen (xs : Array Value) (i k : Nat) : ((List.range k).filterMap fun (m : Nat) => xs[((i : Int) + (m : Int) * 1).toNat]?).toArray = ((xs.toList.drop i).take k).toArray := by
  have e : (fun (m : Nat) => xs[((i : Int) + (m : Int) * 1).toNat]?) = fun m => xs[i + m]? := by
    funext m
    have : ((i : Int) + (m : Int) * 1).toNat = i + m := by omega
    rw [this]
  rw [e]
  have := pick_run xs i k
  rw [List.filterMap_map] at this
  have e2 : ((fun x => xs[x]?) ∘ fun x => i + x) = fun m => xs[i + m]? := rfl
  rw [e2] at this
  rw [this]
theorem getItem_tuple_cut {t sl : Addr} {items : Array Value} {vl vu : Value} {lo hi : Option Int} {Q : Value → Shared → Prop} (ht : IsTup s.heap t items) (hs : s.heap.IsSliceOf sl vl vu .none) (pl : IsPart vl lo) (pu : IsPart vu hi)
    (hw : ¬ (sIx items.size 0 lo = 0 ∧ sIx items.size items.size hi = items.size))
    (h : Q (.ref s.heap.objs.size) { s with heap := s.heap.push { cls := .type "tuple", data := .seq ((items.toList.drop (sIx items.size 0 lo)).take (sIx items.size items.size hi - sIx items.size 0 lo)).toArray } })
    (hsz : items.size ≤ sizeLine) : wpAny (model prog w) A (getItem (.ref t) (.ref sl)) Q E s := by
  have htake : sizeOk (.seq ((items.toList.drop (sIx items.size 0 lo)).take (sIx items.size items.size hi - sIx items.size 0 lo)).toArray) := by
    show ((items.toList.drop (sIx items.size 0 lo)).take (sIx items.size items.size hi - sIx items.size 0 lo)).toArray.size ≤ sizeLine
    rw [List.size_toArray, List.length_take, List.length_drop, Array.length_toList]
    omega
  have hj : sIx items.size items.size hi ≤ items.size := sIx_le _ _ (Nat.le_refl _) hi
  obtain ⟨os, hos, hcs, hds⟩ := id hs
  have hTs : s.TypeIs (.ref sl) "slice" := ⟨os, hos, hcs⟩
  unfold getItem
  try with_reducible refine wpAny_holding ?_
  first | refine wpAny_bind (wpAny_pure ?_) | skip
  refine wpAny_bind (wpAny_sequenceKey ht.typeIs (by decide) ?_)
  refine wpAny_bind (wpAny_callSpecial?_slot (name := Str.ofString "__getitem__") ht.typeIs PyProof.Rows.slot_tuple_getitem
    (wpAny_call_entry PyProof.Rows.slot_tuple_getitem ht.typeIs entry_tuple_getitem ?_ (args_tuple_getitem _ _)))
  show wpAny _ _ (Builtin.Tuple.tupleItemsOf (.ref t) >>= _) _ _ s
  refine wpAny_bind (tupleItemsOf_ ht ?_)
  refine wpAny_bind (wpAny_typeOf hTs ?_)
  rw [if_pos (by decide)]
  refine wpAny_bind (sliceApplied_gen hs pl pu ?_)
  have hno : ¬ ((((sIx items.size 0 lo : Nat) : Int) == 0 && (1 : Int) == 1 && (sIx items.size items.size hi - sIx items.size 0 lo) == items.size) = true) := by
    intro q
    rw [Bool.and_eq_true, Bool.and_eq_true] at q
    have q1 : ((sIx items.size 0 lo : Nat) : Int) = 0 := eq_of_beq q.1.1
    have q2 : sIx items.size items.size hi - sIx items.size 0 lo = items.size := eq_of_beq q.2
    exact hw ⟨by omega, by omega⟩
  show wpAny _ _ (if (((sIx items.size 0 lo : Nat) : Int) == 0 && (1 : Int) == 1 && (sIx items.size items.size hi - sIx items.size 0 lo) == items.size) = true then _ else _) _ _ s
  rw [if_neg hno, pick_gen]
  first
    | exact wpAny_bind (m := Builtin.Tuple.tupleExact _) (wpAny_newObj_type (wpAny_pure ⟨_, rfl, wpAny_pure h⟩) htake)
    | exact wpAny_bind (m := Builtin.Tuple.tupleExact _) (wpAny_newObj_type (wpAny_bind (wpAny_pure (wpAny_pure ⟨_, rfl, wpAny_pure h⟩))) htake)
    | exact wpAny_bind (wpAny_bind (m := Builtin.Tuple.tupleExact _) (wpAny_newObj_type (wpAny_pure (wpAny_pure ⟨_, rfl, wpAny_pure h⟩)) htake))
    | exact wpAny_bind (wpAny_bind (m := Builtin.Tuple.tupleExact _) (wpAny_newObj_type (wpAny_pure ⟨_, rfl, wpAny_pure h⟩) htake))
end
end HT
namespace L2
open PySem PySem.Spec PyProof.Rows
abbrev TO := St → Hp → (Option Int → Hp → Prop) → Prop
def PO (X : Cx) (e : Option Expr) (t : TO) : Prop :=
  ∀ (pins : List (Addr × Obj)) (s : Shared) (σ : St) (H : Hp) (Q : Option Int → Hp → Prop), Inv X pins σ H s → t σ H Q →
    wpAny (model X.prog X.w) X.A (evalPart e X.env) (fun u s' => ∃ o H', Inv X pins σ H' s' ∧ IsPart u o ∧ Q o H') X.xe s
def tNoPart : TO := fun _ H Q => Q none H
def tPart (t : TE) : TO := fun σ H Q => t σ H fun x H1 => ∃ i, x = .int i ∧ Q (some i) H1
section
variable {X : Cx} {e : Expr} {te : TE} {lo hi : Option Expr} {tl th : TO} {pos p2 : Pos}
theorem po_none : PO X none tNoPart := by
  intro pins s σ H Q I h
  rw [evalPart_none]
  exact wpAny_pure ⟨none, H, I, .none, h⟩
theorem po_some (h : PE X e te) : PO X (some e) (tPart te) := by
  intro pins s σ H Q I hw
  rw [evalPart_some]
  refine thn (h pins s σ H _ I hw) fun u s1 ⟨x, H1, I1, r1, q1⟩ => ?_
  obtain ⟨i, rfl, q⟩ := q1
  obtain ⟨t, rfl⟩ := r1
  exact ⟨some i, H1, I1, .int i t, q⟩
def SlR (X : Cx) (r : V → Option Int → Option Int → Hp → VK → Prop) : Prop :=
  ∀ (pins : List (Addr × Obj)) (s : Shared) (σ : St) (H : Hp) (x : V) (v vl vu : Value) (lo hi : Option Int) (sl : Addr) (Q : VK), Inv X pins σ H s → RelV x v → s.heap.IsSliceOf sl vl vu .none → IsPart vl lo → IsPart vu hi → r x lo hi H Q →
    ∃ T id, typeLookup (.type T) "__getitem__" = pure (some (.builtin id)) ∧ s.TypeIs v T ∧ wpAny (model X.prog X.w) X.A (getItem v (.ref sl)) (EP X pins σ Q) X.xe s
def tSl (r : V → Option Int → Option Int → Hp → VK → Prop) (te : TE) (tl th : TO) : TE := fun σ H Q => te σ H fun x H1 => tl σ H1 fun l H2 => th σ H2 fun u H3 => r x l u H3 Q
theorem pe_slice {r : V → Option Int → Option Int → Hp → VK → Prop} (hr : SlR X r) (he : PE X e te) (hl : PO X lo tl) (hu : PO X hi th) : PE X (.Subscript e (.Slice lo hi none p2) pos) (tSl r te tl th) := by
  intro pins s σ H Q I h
  refine Subscript_ (thn (he pins s σ H _ I h) fun v s1 ⟨x, H1, I1, r1, q1⟩ => ?_)
  refine wpAny_Slice (thn (hl pins s1 σ H1 _ I1 q1) fun vl s2 ⟨l, H2, I2, pl, q2⟩ => thn (hu pins s2 σ H2 _ I2 q2) fun vu s3 ⟨u, H3, I3, pu, q3⟩ => ?_)
  rw [evalPart_none]
  refine wpAny_pure ?_
  have I4 : Inv X pins σ H3 { s3 with heap := s3.heap.push { cls := .type "slice", data := .fields #[vl, vu, .none] } } := I3.kept (t' := s3.toks) fun b ob q => Heap.get?_push_of_some _ q
  obtain ⟨T, id, hT, ht, hg⟩ := hr pins { s3 with heap := s3.heap.push { cls := .type "slice", data := .fields #[vl, vu, .none] } } σ H3 x v vl vu l u s3.heap.objs.size Q I4 r1 (Heap.IsSliceOf.new ..) pl pu q3
  show wpAny (model X.prog X.w) X.A (subscriptTail e (.Slice lo hi none p2) v (.ref s3.heap.objs.size)) (EP X pins σ Q) X.xe { s3 with heap := s3.heap.push { cls := .type "slice", data := .fields #[vl, vu, .none] } }
  exact tail_any (ops := [.ref s3.heap.objs.size, v]) ht hT hg (by with_unfolding_all rfl)
def cutV (xs : List V) (lo hi : Option Int) : List V := (xs.drop (HT.sIx xs.length 0 lo)).take (HT.sIx xs.length xs.length hi - HT.sIx xs.length 0 lo)
theorem cutV_length (xs : List V) (lo hi : Option Int) : (cutV xs lo hi).length ≤ xs.length := by
  unfold cutV
  rw [List.length_take, List.length_drop]
  omega
def rSlT (K : PySem.W.Frag) : V → Option Int → Option Int → Hp → VK → Prop := fun x lo hi H Q => ∃ a xs, x = .ref a ∧ SqT K H a xs ∧
  ¬ (HT.sIx xs.length 0 lo = 0 ∧ HT.sIx xs.length xs.length hi = xs.length) ∧ ∀ p, H p = none → Q (.ref p) (upd H p (.tup (cutV xs lo hi)))
theorem sl_tup : SlR X (rSlT X.K) := by
  intro pins s σ H x v vl vu lo hi sl Q I rx hs pl pu h
  obtain ⟨a, xs, rfl, hx, hw, q⟩ := h
  cases rx
  obtain ⟨its, r, ht, hz⟩ := I.tuple hx
  have hlen : its.toArray.size = xs.length := by rw [List.size_toArray]; exact r.length.symm
  refine ⟨"tuple", _, PyProof.Rows.slot_tuple_getitem.lookup, ht.typeIs, ?_⟩
  refine HT.getItem_tuple_cut ht hs pl pu (by rw [hlen]; exact hw) ?_ (by rw [hlen]; exact hz)
  rw [hlen]
  refine ⟨.ref s.heap.objs.size, _, I.laid (t' := s.toks) (o := .tup (cutV xs lo hi)) (fun b ob q => Heap.get?_push_of_some _ q) (Nat.le_refl _) ?_, rfl, q _ (I.hok.fresh (Nat.le_refl _))⟩
  exact ⟨Nat.le_trans (cutV_length xs lo hi) hz, _, (r.drop (HT.sIx xs.length 0 lo)).take (HT.sIx xs.length xs.length hi - HT.sIx xs.length 0 lo), IsTup.new _ _⟩
def rCatT (K : PySem.W.Frag) : R2 := fun x y H Q => ∃ a b xs ys, x = .ref a ∧ y = .ref b ∧ SqT K H a xs ∧ SqT K H b ys ∧ xs ≠ [] ∧ xs.length + ys.length ≤ sizeLine ∧
  (ys = [] → Q (.ref a) H) ∧ (ys ≠ [] → ∀ p, H p = none → Q (.ref p) (upd H p (.tup (xs ++ ys))))
theorem Vals.nil_iff {xs : List V} {us : List Value} (r : Vals xs us) : us = [] ↔ xs = [] := by
  cases r with
  | nil => simp
  | cons _ _ => simp
theorem op_catT : OpR X (binaryOp .Add) (rCatT X.K) := by
  intro pins s σ H x y v u Q I rx ry h
  obtain ⟨a, b, xs, ys, rfl, rfl, ha, hb, hx, hz, q1, q2⟩ := h
  cases rx
  cases ry
  obtain ⟨its, r1, p1, _⟩ := I.tuple ha
  obtain ⟨its2, r2, p2, _⟩ := I.tuple hb
  refine HT.cat_tup p1 p2 (fun z => hx (r1.nil_iff.mp z)) (fun z => ⟨.ref a, H, I, rfl, q1 (r2.nil_iff.mp z)⟩) (fun z => ?_) (by rw [← r1.length, ← r2.length]; exact hz)
  refine ⟨.ref s.heap.objs.size, _, I.laid (t' := s.toks) (o := .tup (xs ++ ys)) (fun b ob q => Heap.get?_push_of_some _ q) (Nat.le_refl _) ?_, rfl, q2 (fun w => z (r2.nil_iff.mpr w)) _ (I.hok.fresh (Nat.le_refl _))⟩
  exact ⟨by rw [List.length_append]; exact hz, _, r1.append r2, IsTup.new _ _⟩
end
end L2
namespace L2
open PySem PySem.Spec PyProof.Rows
def ixN (n : Nat) (i : Int) : Option Nat := if 0 ≤ i then (if i < n then some i.toNat else none) else if -(n : Int) ≤ i then some (i + n).toNat else none
def atI {α : Type} (xs : List α) (i : Int) : Option α := (ixN xs.length i).bind fun j => xs[j]?
theorem ixN_seq {n : Nat} {i : Int} {j : Nat} (h : ixN n i = some j) : seqIndex? i n = some j ∧ j < n ∧ -(n : Int) ≤ i ∧ i < n := by
  unfold ixN at h
  by_cases h0 : 0 ≤ i
  · rw [if_pos h0] at h
    by_cases h1 : i < n
    · rw [if_pos h1] at h
      have e : i.toNat = j := Option.some.inj h
      exact ⟨by rw [seqIndex_of h0 h1, e], by omega, by omega, h1⟩
    · rw [if_neg h1] at h; cases h
  · rw [if_neg h0] at h
    by_cases h1 : -(n : Int) ≤ i
    · rw [if_pos h1] at h
      have e : (i + n).toNat = j := Option.some.inj h
      exact ⟨by rw [seqIndex_neg (by omega) h1, e], by omega, h1, by omega⟩
    · rw [if_neg h1] at h; cases h
theorem atI_get {α : Type} {xs : List α} {i : Int} {v : α} (h : atI xs i = some v) : ∃ j, seqIndex? i xs.length = some j ∧ xs[j]? = some v ∧ j < xs.length ∧ -(xs.length : Int) ≤ i ∧ i < xs.length := by
  unfold atI at h
  cases e : ixN xs.length i with
  | none => rw [e] at h; cases h
  | some j =>
    rw [e] at h
    obtain ⟨h1, h2, h3, h4⟩ := ixN_seq e
    exact ⟨j, h1, h, h2, h3, h4⟩
theorem atI_nat {α : Type} {xs : List α} {j : Nat} {v : α} (h : xs[j]? = some v) : atI xs (j : Int) = some v := by
  have hj : j < xs.length := (List.getElem?_eq_some_iff.mp h).1
  have e : ixN xs.length (j : Int) = some j := by
    unfold ixN
    rw [if_pos (by omega), if_pos (by omega)]; simp
  unfold atI; rw [e]; exact h
def PlainIx (b : Expr) : Prop := ∀ o i, subscripted b false o i = operate [o, i] (getItem o i)
def IxR (X : Cx) (r : R2) : Prop :=
  ∀ (value slice : Expr) (pins : List (Addr × Obj)) (s : Shared) (σ : St) (H : Hp) (x y : V) (v u : Value) (Q : VK), Inv X pins σ H s → RelV x v → RelV y u → r x y H Q →
    subscripted slice false v u = operate [v, u] (getItem v u) → wpAny (model X.prog X.w) X.A (subscriptTail value slice v u) (EP X pins σ Q) X.xe s
def MtR (X : Cx) (id : String) (r : V → List V → Hp → VK → Prop) : Prop :=
  ∀ (pins : List (Addr × Obj)) (s : Shared) (σ : St) (H : Hp) (x : V) (xs : List V) (v : Value) (us : List Value) (Q : VK), Inv X pins σ H s → RelV x v → Vals xs us → r x xs H Q →
    wpAny (model X.prog X.w) X.A (call (.builtin id) (v :: us)) (EP X pins σ Q) X.xe s
section
variable {X : Cx} {a b : Expr} {ta tb : TE} {pos : Pos}
theorem pe_ix {r : R2} (hr : IxR X r) (ha : PE X a ta) (hb : PE X b tb) (hs : PlainIx b) : PE X (.Subscript a b pos) (tOp r ta tb) := by
  intro pins s σ H Q I h
  exact Subscript_ (binT ha hb I h fun v u s2 x y H2 I2 rx ry q => hr a b pins s2 σ H2 x y v u Q I2 rx ry q (hs _ _))
def rIxL (K : PySem.W.Frag) : R2 := fun x y H Q => ∃ p xs i v, x = .ref p ∧ y = .int i ∧ SqL K H p xs ∧ atI xs i = some v ∧ Q v H
def rIxT (K : PySem.W.Frag) : R2 := fun x y H Q => ∃ p xs i v, x = .ref p ∧ y = .int i ∧ SqT K H p xs ∧ atI xs i = some v ∧ Q v H
theorem ix_list : IxR X (rIxL X.K) := by
  intro value slice pins s σ H x y v u Q I rx ry h hs
  obtain ⟨p, xs, i, z, rfl, rfl, hq, he, q⟩ := h
  cases rx
  obtain ⟨t, rfl⟩ := ry
  obtain ⟨its, r, pl, hz⟩ := I.list hq
  obtain ⟨j, h1, h2, h3, h4, h5⟩ := atI_get he
  obtain ⟨w, ew, rw'⟩ := r.get h2
  have hl := r.length
  have hn := line63
  have fin : EP X pins σ Q w s := ⟨z, H, I, rw', q⟩
  by_cases h0 : 0 ≤ i
  · have hj : i.toNat = j := by
      rw [seqIndex_of h0 h5] at h1
      exact Option.some.inj h1
    exact item_listR pl.isList h0 (by omega) (by rw [hj]; simpa using ew) fin hs
  · have hj : (i + (its.toArray.size : Int)).toNat = j := by
      rw [seqIndex_neg (by omega) h4] at h1
      rw [List.size_toArray, ← hl]
      exact Option.some.inj h1
    exact subscriptTail_builtinR (x := w) pl.isList.typeIs slot_list_getitem.lookup
      (wpAny_getItem_list_neg (Q := fun r s' => r = w ∧ EP X pins σ Q r s') pl.isList (by omega) (by rw [List.size_toArray] <;> omega) (by omega) (by rw [hj]; simpa using ew) ⟨rfl, fin⟩) hs
theorem ix_tup : IxR X (rIxT X.K) := by
  intro value slice pins s σ H x y v u Q I rx ry h hs
  obtain ⟨p, xs, i, z, rfl, rfl, hq, he, q⟩ := h
  cases rx
  obtain ⟨t, rfl⟩ := ry
  obtain ⟨its, r, pl, hz⟩ := I.tuple hq
  obtain ⟨j, h1, h2, h3, h4, h5⟩ := atI_get he
  obtain ⟨w, ew, rw'⟩ := r.get h2
  have hl := r.length
  have hn := line63
  have fin : EP X pins σ Q w s := ⟨z, H, I, rw', q⟩
  exact subscriptTail_builtinR (x := w) pl.typeIs slot_tuple_getitem.lookup
    (getItem_tuple (j := j) (Q := fun r s' => r = w ∧ EP X pins σ Q r s') pl (by omega) (by omega) (by rw [List.size_toArray, ← hl]; exact h1) (by simpa using ew) ⟨rfl, fin⟩) hs
theorem mapSeq_set (its : List Value) (n j : Nat) (u : Value) : Obj.mapSeq (·.setIfInBounds j u) { cls := .type "list", data := .seq its.toArray n } = { cls := .type "list", data := .seq (its.set j u).toArray n } := by
  simp [Obj.mapSeq]
theorem Inv.lst {pins : List (Addr × Obj)} {σ : St} {H : Hp} {s : Shared} {p : Addr} {xs : List V} (I : Inv X pins σ H s) (h : H p = some (.lst xs)) :
    ∃ (its : List Value) (n : Nat), Vals xs its ∧ s.heap.get? p = some { cls := .type "list", data := .seq its.toArray n } ∧ xs.length ≤ sizeLine := by
  obtain ⟨z, its, n, r, e⟩ := I.hok p _ h
  exact ⟨its, n, r, e, z⟩
theorem Inv.lstUpd {pins : List (Addr × Obj)} {σ : St} {H : Hp} {s : Shared} {p : Addr} {xs ys : List V} {its its' : List Value} {n n' : Nat} {f : Obj → Obj} (I : Inv X pins σ H s) (h : H p = some (.lst xs))
    (ho : s.heap.get? p = some { cls := .type "list", data := .seq its.toArray n }) (hf : f { cls := .type "list", data := .seq its.toArray n } = { cls := .type "list", data := .seq its'.toArray n' }) (r : Vals ys its') (hz : ys.length ≤ sizeLine) (t : Nat) :
    Inv X pins σ (upd H p (.lst ys)) { s with heap := s.heap.update p f, toks := t } := by
  have e : (s.heap.update p f).get? p = some { cls := .type "list", data := .seq its'.toArray n' } := by
    rw [Heap.get?_update_self f ho (by rw [hf] <;> rfl), hf]
  refine I.write (x := p) (e := p) (by rw [h]; trivial) (.inl rfl) (fun b u hb q => (Heap.get?_update_other _ _ (Ne.symm hb)).trans q) ⟨_, e⟩ ?_
  exact ⟨hz, its', n', r, e⟩
def rSetL : V → V → V → Hp → (Hp → Prop) → Prop := fun o i v H Q => ∃ p xs k j, o = .ref p ∧ i = .int k ∧ H p = some (.lst xs) ∧ ixN xs.length k = some j ∧ Q (upd H p (.lst (xs.set j v)))
theorem set_list : PSet X rSetL := by
  intro pins s σ H o i v ov iv u Q I ro ri rv h
  obtain ⟨p, xs, k, j, rfl, rfl, hp, hj, q⟩ := h
  cases ro
  obtain ⟨t, rfl⟩ := ri
  obtain ⟨its, n, r, ho, hz⟩ := I.lst hp
  obtain ⟨h1, h2, h3, h4⟩ := ixN_seq hj
  have hl := r.length
  have hn := line63
  have I' : Inv X pins σ (upd H p (.lst (xs.set j v))) { s with heap := s.heap.update p (Obj.mapSeq (·.setIfInBounds j u)) } :=
    I.lstUpd hp ho (mapSeq_set its n j u) (r.set rv j) (by rw [List.length_set]; exact hz) s.toks
  by_cases h0 : 0 ≤ k
  · have hk : k.toNat = j := by
      rw [seqIndex_of h0 h4] at h1
      exact Option.some.inj h1
    exact PySem.W.ki_setAt ho h0 (by omega) (by rw [List.size_toArray, ← hl]; exact h4) (by rw [hk]; exact ⟨_, I', q⟩)
  · have hk : (k + (its.toArray.size : Int)).toNat = j := by
      rw [seqIndex_neg (by omega) h3] at h1
      rw [List.size_toArray, ← hl]
      exact Option.some.inj h1
    exact PySem.W.ki_setBack ho (by omega) (by rw [List.size_toArray, ← hl]; exact h3) (by omega) (by rw [hk]; exact ⟨_, I', q⟩)
theorem call_len_seq : CallR X (.builtin "len") (fun xs H Q => ∃ p ys, xs = [.ref p] ∧ (SqL X.K H p ys ∨ SqT X.K H p ys) ∧ Q (.int ys.length) H) := by
  intro pins s σ H xs us Q I r h
  obtain ⟨p, ys, rfl, hq, q⟩ := h
  obtain ⟨u, rfl, rx⟩ := vals1 r
  cases rx
  have hn := line63
  rcases hq with hq | hq
  · obtain ⟨its, r', pl, hz⟩ := I.list hq
    have hlen := r'.length
    exact Calls.call_len_list pl.isList (by simp only [List.size_toArray] <;> omega) ⟨.int ys.length, H, I.tok _, ⟨s.toks + 1, by rw [List.size_toArray, hlen]⟩, q⟩
  · obtain ⟨its, r', pl, hz⟩ := I.tuple hq
    have hlen := r'.length
    exact len_tuple pl (by simp only [List.size_toArray] <;> omega) ⟨.int ys.length, H, I.tok _, ⟨s.toks + 1, by rw [List.size_toArray, hlen]⟩, q⟩
theorem call_list_of : CallR X (.type "list") (fun xs H Q => ∃ p ys, xs = [.ref p] ∧ (SqL X.K H p ys ∨ SqT X.K H p ys) ∧ ∀ l, H l = none → Q (.ref l) (upd H l (.lst ys))) := by
  intro pins s σ H xs us Q I r h
  obtain ⟨p, ys, rfl, hq, q⟩ := h
  obtain ⟨u, rfl, rx⟩ := vals1 r
  cases rx
  have fin : ∀ (its : List Value), Vals ys its → ys.length ≤ sizeLine → ∀ (h' : Heap) (c' : Nat), (∀ b o', s.heap.get? b = some o' → h'.get? b = some o') →
      h'.get? s.heap.objs.size = some { cls := .type "list", dict := none, data := .seq its.toArray c', slots := #[] } → EP X pins σ Q (.ref s.heap.objs.size) { s with heap := h' } := fun its r' hz h' c' kp e =>
    ⟨.ref s.heap.objs.size, _, I.laid (t' := s.toks) kp (Nat.le_refl _) (show ObjOk X.prog X.w _ h' _ (.lst ys) from ⟨hz, its, c', r', e⟩), rfl, q _ (I.hok.fresh (Nat.le_refl _))⟩
  rcases hq with hq | hq
  · obtain ⟨its, r', pl, hz⟩ := I.list hq
    have hlen := r'.length
    obtain ⟨o, ho, hc, n, hd⟩ := pl.isList
    exact call_list_seq p (.inl rfl) ho hc hd (fun h' c' kp e => fin its r' hz h' c' kp e) (by simp only [List.size_toArray] <;> omega)
  · obtain ⟨its, r', pl, hz⟩ := I.tuple hq
    have hlen := r'.length
    obtain ⟨o, ho, hc, n, hd⟩ := pl
    exact call_list_seq p (.inr rfl) ho hc hd (fun h' c' kp e => fin its r' hz h' c' kp e) (by simp only [List.size_toArray] <;> omega)
theorem call_tuple_of : CallR X (.type "tuple") (fun xs H Q => ∃ p ys, xs = [.ref p] ∧ ((SqL X.K H p ys ∧ ∀ l, H l = none → Q (.ref l) (upd H l (.tup ys))) ∨ (SqT X.K H p ys ∧ Q (.ref p) H))) := by
  intro pins s σ H xs us Q I r h
  obtain ⟨p, ys, rfl, h⟩ := h
  obtain ⟨u, rfl, rx⟩ := vals1 r
  cases rx
  rcases h with ⟨hq, q⟩ | ⟨hq, q⟩
  · obtain ⟨its, r', pl, hz⟩ := I.list hq
    have hlen := r'.length
    refine call_tuple_list pl.isList (fun h' kp => ?_) (by simp only [List.size_toArray] <;> omega)
    have I1 : Inv X pins σ H { s with heap := h' } := I.kept (t' := s.toks) kp
    have I2 : Inv X pins σ (upd H h'.objs.size (.tup ys)) { s with heap := h'.push { cls := .type "tuple", data := .seq its.toArray } } :=
      I1.laid (t' := s.toks) (fun b o e => Heap.get?_push_of_some _ e) (Nat.le_refl _) (show ObjOk X.prog X.w _ _ _ (.tup ys) from ⟨hz, its, r', IsTup.new _ _⟩)
    exact ⟨.ref h'.objs.size, _, I2, rfl, q _ (I1.hok.fresh (Nat.le_refl _))⟩
  · obtain ⟨its, r', pl, hz⟩ := I.tuple hq
    exact call_tuple_same pl ⟨.ref p, H, I, rfl, q⟩
def tyV (K : PySem.W.Frag) (T : String) (x : V) (H : Hp) : Prop := match x with
  | .str _ => T = "str"
  | .int _ => T = "int"
  | .ref p => (T = "list" ∧ ∃ xs, SqL K H p xs) ∨ (T = "tuple" ∧ ∃ o, K.lookup p = some o ∧ o.cls = .type "tuple" ∧ o.dict = none) ∨
      (T = "dict" ∧ ((∃ kvs, H p = some (.dK kvs)) ∨ ∃ kvs, H p = some (.dT kvs))) ∨ (T = "set" ∧ ∃ S n, H p = some (.set S n))
  | _ => False
theorem tyV_is {pins : List (Addr × Obj)} {σ : St} {H : Hp} {s : Shared} {T : String} {x : V} {v : Value} (I : Inv X pins σ H s) (r : RelV x v) (ty : tyV X.K T x H) :
    s.TypeIs v T ∧ ∀ a, v = .ref a → ∃ ob, s.heap.get? a = some ob ∧ ob.dict = none := by
  cases x with
  | str z =>
    obtain ⟨t, rfl⟩ := r
    cases (show T = "str" from ty)
    exact ⟨typeIs_str s z t, fun _ e => nomatch e⟩
  | int i =>
    obtain ⟨t, rfl⟩ := r
    cases (show T = "int" from ty)
    exact ⟨typeIs_int s i t, fun _ e => nomatch e⟩
  | ref p =>
    cases r
    rcases ty with ⟨rfl, xs, hq⟩ | ⟨rfl, o, hk, hc, hd⟩ | ⟨rfl, hk⟩ | ⟨rfl, S, n, hk⟩
    · obtain ⟨its, _, pl, _⟩ := I.list hq
      refine ⟨pl.isList.typeIs, fun a e => ?_⟩
      cases e
      obtain ⟨o, n, e, c, hd, _⟩ := pl
      exact ⟨o, e, hd⟩
    · refine ⟨⟨o, I.kIn p o hk, hc⟩, fun a e => ?_⟩
      cases e
      exact ⟨o, I.kIn _ o hk, hd⟩
    · have z : ∃ o, s.heap.get? p = some o ∧ o.ExactDict := by
        rcases hk with ⟨kvs, hk⟩ | ⟨kvs, hk⟩
        · obtain ⟨_, _, _, _, o, _, _, e, ex, _⟩ := I.hok p _ hk
          exact ⟨o, e, ex⟩
        · obtain ⟨_, _, _, _, o, _, _, e, ex, _⟩ := I.hok p _ hk
          exact ⟨o, e, ex⟩
      obtain ⟨o, e, ex⟩ := z
      refine ⟨⟨o, e, ex.1⟩, fun a e2 => ?_⟩
      cases e2
      exact ⟨o, e, ex.2.1⟩
    · obtain ⟨o, _, _, _, e, ex, _⟩ := I.hok p _ hk
      refine ⟨⟨o, e, ex.1⟩, fun a e2 => ?_⟩
      cases e2
      exact ⟨o, e, ex.2.1⟩
  | _ => exact False.elim ty
def tBM (K : PySem.W.Frag) (T : String) (r : V → List V → Hp → VK → Prop) (to : TE) (t : TA) : TE := fun σ H Q => to σ H fun x H1 => tyV K T x H1 ∧ t σ H1 fun xs H2 => r x xs H2 Q
variable {o e : Expr} {es : List Expr} {to : TE} {t : TA} {name : Str} {apos cpos : Pos} {T id : String} {r : V → List V → Hp → VK → Prop}
theorem pe_bm (pa : PlainAttrs T) (slot : Slot T name id) (hty : typeOf (.builtin id) = pure (.type "method_descriptor")) (hm : MtR X id r) (ho : PE X o to) (ha : PA X (e :: es) t)
    (hbase : attributeBase o name X.env (eval o X.env) = eval o X.env := by rfl)
    (hfew : ((backTo cpos (starEach (e :: es) X.env)).all (fun x => !x.1) && (backToKw cpos (keywordEach [] X.env)).all (fun x => x.1.isSome)
      && decide ((e :: es).length + ([] : List Keyword).length + (if ([] : List Keyword).isEmpty then 0 else 1) < 30)) = true := by rfl)
    (hline : (apos.endLine == cpos.line) = true := by rfl) (hs : starEach (e :: es) X.env = (false, eval e X.env) :: starEach es X.env := by rfl) (hplain : (backTo cpos (starEach es X.env)).any (·.1) = false := by rfl) :
    PE X (.Call (.Attribute o name apos) (e :: es) [] cpos) (tBM X.K T r to t) := by
  intro pins s σ H Q I h
  refine wpAny_Call_method_late hbase hfew hline rfl (thn (ho pins s σ H _ I h) fun v s1 ⟨x, H1, I1, r1, ty, q1⟩ => ?_)
  obtain ⟨h1, h2⟩ := tyV_is I1 r1 ty
  refine ⟨T, id, pa, slot, hty, h1, h2, ?_⟩
  have hA := ha cpos pins s1 σ H1 _ I1 q1
  rw [hs] at hA ⊢
  refine Calls.callWith_builtin (by show (false || (backTo cpos (starEach es X.env)).any (·.1)) = false; rw [hplain] <;> rfl) (Calls.evalArgs_plain ?_)
  exact thn hA fun us s2 ⟨vs, H2, I2, r2, q2⟩ => hm pins s2 σ H2 x vs v us Q I2 r1 r2 q2
end
end L2
namespace L2
open PySem PySem.Spec PyProof.Rows
def MtM (X : Cx) (id : String) (r : V → List V → Hp → VK → Prop) : Prop :=
  ∀ (pins : List (Addr × Obj)) (s : Shared) (σ : St) (H : Hp) (x : V) (xs : List V) (v : Value) (us : List Value) (Q : VK), Inv X pins σ H s → RelV x v → Vals xs us → r x xs H Q →
    wpAny (model X.prog X.w) X.A (call (.builtin id) (v :: us)) (EP X pins σ Q) X.xe s
theorem Vals.one : ∀ {x : V} {us : List Value}, Vals [x] us → ∃ u, us = [u] ∧ RelV x u
  | _, _, .cons r .nil => ⟨_, rfl, r⟩
theorem Vals.zero : ∀ {us : List Value}, Vals [] us → us = []
  | _, .nil => rfl
theorem Vals.reverse {xs : List V} {us : List Value} (h : Vals xs us) : Vals xs.reverse us.reverse := by
  induction h with
  | nil => exact .nil
  | cons r t ih => rw [List.reverse_cons, List.reverse_cons]; exact Vals.append ih (.cons r .nil)
section
variable {X : Cx} {pins : List (Addr × Obj)} {σ : St} {H : Hp} {s : Shared} {l b : Addr} {xs ys zs : List V}
theorem Inv.lset {its its' : List Value} {n : Nat} {f : Array Value → Array Value} {t' : Nat} (I : Inv X pins σ H s) (hH : H l = some (.lst xs))
    (e : s.heap.get? l = some { cls := .type "list", data := .seq its.toArray n }) (hf : f its.toArray = its'.toArray) (hv : Vals ys its') (hz : ys.length ≤ sizeLine) :
    Inv X pins σ (upd H l (.lst ys)) { s with heap := s.heap.update l (Obj.mapSeq f), toks := t' } := by
  have q := PySem.IsL.update e f
  rw [hf] at q
  refine I.write (x := l) (e := l) (by rw [hH]; exact trivial) (.inl rfl) (fun b' u hb hu => (Heap.get?_update_other s.heap (Obj.mapSeq f) (Ne.symm hb)).trans hu) ⟨_, q⟩ ?_
  exact ⟨hz, its', _, hv, q⟩
theorem Inv.lnew {its : List Value} {t' : Nat} (I : Inv X pins σ H s) (hv : Vals ys its) (hz : ys.length ≤ sizeLine) :
    Inv X pins σ (upd H s.heap.objs.size (.lst ys)) { s with heap := s.heap.push { cls := .type "list", data := .seq its.toArray }, toks := t' } :=
  I.laid (fun _ _ q => Heap.get?_push_of_some _ q) (Nat.le_refl _) ⟨hz, its, 0, hv, Heap.get?_push_size _ rfl⟩
theorem Inv.fresh (I : Inv X pins σ H s) : H s.heap.objs.size = none := I.hok.fresh (Nat.le_refl _)
theorem Inv.lstM (I : Inv X pins σ H s) (hH : H l = some (.lst xs)) : xs.length ≤ sizeLine ∧ ∃ (its : List Value) (n : Nat), Vals xs its ∧ xs.length = its.length ∧ s.heap.get? l = some { cls := .type "list", data := .seq its.toArray n } := by
  obtain ⟨z, its, n, r, e⟩ := I.hok l _ hH
  exact ⟨z, its, n, r, r.length, e⟩
theorem notLongL {n : Nat} (h : n ≤ sizeLine) : Builtin.List.listTooLong n = false := by
  unfold Builtin.List.listTooLong
  exact decide_eq_false (by omega)
end
section
variable {X : Cx}
def rAppend : V → List V → Hp → VK → Prop := fun x vs H Q => ∃ l xs y, x = .ref l ∧ vs = [y] ∧ H l = some (.lst xs) ∧ xs.length < sizeLine ∧ Q .non (upd H l (.lst (xs ++ [y])))
theorem mt_append : MtM X "list.append" rAppend := by
  intro pins s σ H x vs v us Q I rx rv h
  obtain ⟨l, xs, y, rfl, rfl, hH, hz, q⟩ := h
  cases rx
  obtain ⟨u, rfl, ru⟩ := rv.one
  obtain ⟨z, its, n, r, hl, e⟩ := I.lstM hH
  refine call_meets F.slot_list_append ⟨_, e, rfl⟩ F.entry_list_append (F.args_list_append_2 _ _) (PySem.list_append l its.toArray n u (by rw [List.size_toArray]; omega)) ⟨e, ?_⟩
  refine ⟨.non, _, I.lset (its' := its ++ [u]) hH e (by simp) (r.append (.cons ru .nil)) ?_, rfl, q⟩
  rw [List.length_append, List.length_singleton]
  omega
def rCat : R2 := fun x y H Q => ∃ l b xs zs, x = .ref l ∧ y = .ref b ∧ H l = some (.lst xs) ∧ H b = some (.lst zs) ∧ xs.length + zs.length ≤ sizeLine ∧ ∀ p, H p = none → Q (.ref p) (upd H p (.lst (xs ++ zs)))
theorem op_cat : OpR X (binaryOp .Add) rCat := by
  intro pins s σ H x y v u Q I rx ry h
  obtain ⟨l, b, xs, zs, rfl, rfl, hH, hB, hz, q⟩ := h
  cases rx
  cases ry
  obtain ⟨z, its, n, r, hl, e⟩ := I.lstM hH
  obtain ⟨z2, its2, n2, r2, hl2, e2⟩ := I.lstM hB
  refine PySem.P.add_list e e2 ?_ (by rw [List.size_toArray, List.size_toArray]; omega)
  have ea : its.toArray ++ its2.toArray = (its ++ its2).toArray := by simp
  rw [ea]
  exact ⟨.ref _, _, I.lnew (t' := s.toks) (r.append r2) (by rw [List.length_append]; omega), rfl, q _ I.fresh⟩
end
section
variable {prog : Program} {w : World} {A : Around} {E : Value → Shared → Prop} {s : Shared}
end
section
variable {X : Cx}
end
end L2
namespace Att
open PySem PySem.W PySem.Calls PyProof.Rows
theorem ints_of_wellAll {P : Params} {h : Heap} : ∀ (ns : List Int) (vs : List Value), WellAll P h vs (ns.map WData.int) → IntsAre vs ns := by
  intro ns
  induction ns with
  | nil =>
    intro vs w
    rw [List.map_nil] at w
    cases w
    exact .nil
  | cons n ns ih =>
    intro vs w
    rw [List.map_cons] at w
    cases w with
    | cons a b =>
      cases a
      exact .cons _ _ (ih _ b)
theorem script_of {l : OpenLaw} {n : Nat} (hn : l.most = some n) {P : Params} {h : Heap} {args : List WData} {vals : List Value}
    (hpre : l.row.toRowW.claim.pre args = true) (hwl : WellAll P h vals args) :
    ∃ a vs ns, vals = [Value.ref a] ∧ args = [WData.list (ns.map WData.int)] ∧ h.get? a = some { cls := .type "list", data := .seq vs.toArray } ∧ IntsAre vs ns ∧ ns.length ≤ n := by
  have hsh : WShape.hasAll [] args [.list .int] = true := (pre_splitW hpre).1
  have hc : l.pre.holds [] { args := args } = true := (pre_splitW hpre).2
  obtain ⟨d, r, rfl, h1, h2⟩ := hasAllW_cons hsh
  obtain rfl := hasAllW_nil h2
  obtain ⟨xs, rfl, h3⟩ := hasW_list h1
  obtain ⟨ns, rfl⟩ := items_int h3
  have hlen : ns.length ≤ n := by
    unfold OpenLaw.pre at hc
    have h4 : (WTm.not (.lt (.lit (.int (n : Int))) (.len (.arg 0)))).holds [] { args := [.list (ns.map .int)] } = true := by
      have h4 := (holds_andW hc).1
      rw [hn] at h4
      exact h4
    have h5 := condW_of h4 (w_not (w_lt w_lit (w_len_list (w_arg rfl))))
    rw [List.length_map] at h5
    refine Nat.le_of_not_lt fun q => ?_
    have q' : (n : Int) < ((ns.length : Nat) : Int) := by omega
    first
      | (rw [decide_eq_true q'] at h5; exact absurd h5 (by decide))
      | (simp at h5; omega)
  cases hwl with
  | cons w1 w2 =>
    cases w2
    cases w1 with
    | list ho hall => exact ⟨_, _, ns, rfl, rfl, ho, ints_of_wellAll ns _ hall, hlen⟩
theorem post_true (l : OpenLaw) (args : List WData) : l.row.toRowW.claim.post args (.bool true) args = true :=
  postW_of (r := l.row.toRowW) (X := (true == true))
    (show WShape.has [] (.bool true) .bool = true by first | rfl | decide | simp [WShape.has, WShape.arms, WShape.armsAll])
    (show (WTm.eq .res (.lit (.bool true))).value [] { args := args, res := some (.bool true), after := args } = some (.bool (true == true)) from w_eq_bool (w_res rfl) w_lit) rfl
section
variable {prog : Program} {w : World} {A : Around} {E : Value → Shared → Prop} {s : Shared} {K : Frag}
end
end Att
namespace L2
open PySem PySem.Spec PyProof.Rows
theorem vals_ints : ∀ {vs : List Value} {ns : List Int}, IntsAre vs ns → Vals (ns.map V.int) vs
  | _, _, .nil => .nil
  | _, _, .cons n t h => .cons ⟨t, rfl⟩ (vals_ints h)
def Only (H : Hp) : Prop := ∀ b, H b = none ∨ ∃ o xs, H b = some (.frz o (.lst xs))
theorem law_call {P : Program} {w : World} {K : PySem.W.Frag} {mg mb : Str → Option Value} {CX : CXT} {k : Nat} {fa a : Addr} {fd : FuncData} {x : Str} {sp : Sp} {s₁ : Shared} {vs : List Value} {ns : List Int}
    (KX : K.In s₁.heap) (hns : s₁.heap.Ns mainGlobals mg) (hb : s₁.heap.Ns builtinsNs mb) (hbb : ∀ x : Str, x ≠ "__name__" → mb x = bootBuiltins x) (hlim : s₁.heap.NoLimit) (hg : s₁.gens = #[])
    (ha : s₁.heap.get? a = some { cls := .type "list", data := .seq vs.toArray }) (hi : IntsAre vs ns) (hl : ns.length ≤ sizeLine) (hr : Room k callerA)
    (F : ∀ base : Heap, K.In base → base.Ns mainGlobals mg → FnOk P w K mg base CX k fa fd [x] sp) (hbind : ∀ (s : Shared) (u : Value), BindsTo s fd ⟨[u], []⟩ [(x, u)])
    (hsp : ∀ H : Hp, Only H → SqL K H a (ns.map V.int) → sp [.ref a] H (fun v _ => v = .bl true) fun _ _ _ => False)
    (hCX : ∀ H e s', CX [] H s₁ (fun _ _ _ => False) e s' → False) :
    codeAny (model P w) callerA (.call (.ref fa) ⟨[.ref a], []⟩) (fun r s' => r = .ok (.ret (.bool true)) ∧ OldK s₁.heap s'.heap ∧ s'.os = s₁.os ∧ AllBare s'.gens) s₁ := by
  have rv := vals_ints hi
  have lenV := hi.length
  have core : ∀ H : Hp, Only H → SqL K H a (ns.map V.int) → HOk P w H s₁.heap → (∀ b, H b ≠ none → b = a) → (H a ≠ none → K.lookup a = none) →
      codeAny (model P w) callerA (.call (.ref fa) ⟨[.ref a], []⟩) (fun r s' => r = .ok (.ret (.bool true)) ∧ OldK s₁.heap s'.heap ∧ s'.os = s₁.os ∧ AllBare s'.gens) s₁ := by
    intro H hO hS hok hA hK
    have base_of : ∀ {b : Addr} {o : Obj}, s₁.heap.get? b = some o → H b = none → (hidT s₁.heap H).get? b = some o := fun e n => hidT_get e n
    have noA : ∀ {b : Addr} {o : Obj} {es : Array DictEntry} {ep : Nat}, s₁.heap.get? b = some o → o.data = .dict es ep → H b = none := fun {b o es ep} e d => by
      cases q : H b with
      | none => rfl
      | some u =>
        have e' : b = a := hA b (by rw [q]; simp)
        subst e'
        rw [ha] at e; cases e
        have d' : Data.seq vs.toArray _ = Data.dict es ep := d
        cases d'
    have nsK : ∀ {b : Addr} {m : Str → Option Value}, s₁.heap.Ns b m → (hidT s₁.heap H).Ns b m := fun {b m} ⟨o, es, ep, e, d, r⟩ => ⟨o, es, ep, base_of e (noA e d), d, r⟩
    have hKb : K.In (hidT s₁.heap H) := fun b o e => base_of (KX b o e) (by
      cases q : H b with
      | none => rfl
      | some u =>
        have e' : b = a := hA b (by rw [q]; simp)
        subst e'
        rw [hK (by rw [q]; simp)] at e; cases e)
    have hM : Mod K mg (hidT s₁.heap H) := ⟨hKb, nsK hns, ⟨mb, nsK hb, hbb⟩, let ⟨mc, h1, h2⟩ := hlim; ⟨mc, nsK h1, h2⟩⟩
    have e0 : Env0 P w K mg (hidT s₁.heap H) callerA [] s₁ H := ⟨rfl, hM, fun b o e => of_hidT e, Nat.le_of_eq (hidT_size _ _), trivial, fun b hb => absurd (show b ∈ ([] : List Addr) from hb) (by simp), hok, .of_eq hg⟩
    refine codeAny_mono ((F _ hKb (nsK hns)).run callerA [] s₁ H ⟨[.ref a], []⟩ [.ref a] [.ref a] _ _ hr e0 (hbind s₁ (.ref a)) (.cons rfl .nil) (hsp H hO hS)) fun r s' h => ?_
    cases r with
    | error e => exact (hCX H e s' h).elim
    | ok fl =>
      cases fl with
      | next => exact False.elim h
      | brk => exact False.elim h
      | cont => exact False.elim h
      | ret u =>
        obtain ⟨v, H', os, bare, un, hok', r', q⟩ := h
        have q' : v = .bl true := q
        subst q'
        obtain rfl : u = Value.bool true := r'
        refine ⟨rfl, OldK.of_keep fun b o e => ?_, os, bare⟩
        cases q : H b with
        | none => exact un.keep b o e q (by intro z; exact absurd (show b ∈ ([] : List Addr) from z) (by simp)) (by simp)
        | some u =>
          rcases hO b with z | ⟨ob, xs, z⟩
          · rw [q] at z; cases z
          · have z2 := un.frzs b ob _ z
            obtain ⟨e1, _⟩ := hok b _ z
            obtain ⟨e2, _⟩ := hok' b _ z2
            rw [e] at e1; cases e1
            exact e2
  cases hk : K.lookup a with
  | some o =>
    have e := KX a o hk
    rw [ha] at e
    cases e
    refine core (fun _ => none) (fun _ => .inl rfl) (.inr ⟨_, vs.toArray, _, hk, rfl, rfl, rfl, by rw [List.size_toArray, lenV]; exact hl, by simpa using rv⟩) (fun b u z => by have z' : (none : Option HO) = some u := z; cases z') (fun b z => absurd rfl z) fun z => absurd rfl z
  | none =>
    refine core (fun b => if b = a then some (.frz { cls := .type "list", data := .seq vs.toArray } (.lst (ns.map V.int))) else none) (fun b => ?_) (.inl (.inr ⟨{ cls := .type "list", data := .seq vs.toArray }, if_pos rfl⟩)) (fun b u z => ?_) (fun b z => ?_) fun _ => hk
    · by_cases hb : b = a
      · exact .inr ⟨_, _, if_pos hb⟩
      · exact .inl (if_neg hb)
    · by_cases hb : b = a
      · have z' := (if_pos hb).symm.trans z
        cases z'
        subst hb
        exact ⟨ha, by rw [List.length_map]; exact hl, vs, _, rv, ha⟩
      · have z' := (if_neg hb).symm.trans z
        cases z'
    · by_cases hb : b = a
      · exact hb
      · exact absurd (if_neg hb) z
end L2
namespace L2
open PySem PySem.Spec PyProof.Rows
end L2
namespace L2
open PySem PySem.Spec PyProof.Rows
def defArgs (s : Stmt) : Arguments := match s with
  | .FunctionDef _ a _ _ _ _ _ _ _ _ => a
  | _ => { posonlyargs := [], args := [], vararg := none, kwonlyargs := [], kw_defaults := [], kwarg := none, defaults := [] }
def defBody (s : Stmt) : List Stmt := match s with
  | .FunctionDef _ _ b _ _ _ _ _ _ _ => b
  | _ => []
def defScope (s : Stmt) : Scope := match s with
  | .FunctionDef _ _ _ _ _ _ sc _ _ _ => sc
  | _ => { kind := .function, names := [], isGenerator := false, isCoroutine := false }
abbrev CX0 : CXT := fun _ _ _ _ _ _ => False
abbrev E0 : XK := fun _ _ _ => False
theorem pass0 {X : Cx} : Passes CX0 X E0 := fun _ _ _ _ _ _ _ h => h.elim
structure Fun (K : PySem.W.Frag) (x qual : Str) (st : Stmt) (f : Addr) (fd : FuncData) : Prop where
  ex : ∃ (oc : Value) (od : Option Addr) (kV doc pm : Value) (an : Option Addr) (cdv ct : Value) (osl : Array (Option Value)),
    fd = PySem.W.fnOf x qual (defArgs st) (defBody st) (defScope st) .none kV doc pm an cdv ct ∧ K.lookup f = some ⟨oc, od, .func fd, osl⟩ ∧ PySem.W.codeIn K cdv qual = true
  kp : PySem.W.keepIn K (.ref f) = true
section
variable {P : Program} {w : World} {K : PySem.W.Frag} {mg : Str → Option Value} {base : Heap}
theorem Fun.ok {x qual : Str} {st : Stmt} {f : Addr} {fd : FuncData} {N ps : List Str} {k : Nat} {sp : Sp} (F : Fun K x qual st f fd) (S : FnScope N ps (defScope st)) (len : ∀ vs H Q E, sp vs H Q E → vs.length = ps.length)
    (hbody : ∀ (cdv : Value) (A : Around) (outer : List Env) (s : Shared) (H : Hp) (vs : List V) (Q : VK) (E : XK), Room k (A.deeper (envOfC qual (defScope st) s.heap.objs.size f cdv)) → sp vs H Q E →
      ∃ t, PSs (cxOf CX0 P w K mg base N qual (defScope st) f cdv A outer s H E).nox (defBody st) t ∧ t { nx := fun _ H' => Q .non H', rt := Q } (start N vs) H) : FnOk P w K mg base CX0 (k + 1) f fd ps sp := by
  obtain ⟨oc, od, kV, doc, pm, an, cdv, ct, osl, rfl, lk, hcd⟩ := F.ex
  refine fn_of lk hcd S len fun A outer s H vs Q E hr hsp => ?_
  obtain ⟨t, h, q⟩ := hbody cdv A outer s H vs Q E hr hsp
  exact ⟨t, h.nox, q⟩
theorem Fun.binds {x qual : Str} {st : Stmt} {f : Addr} {fd : FuncData} {ps : List Str} (F : Fun K x qual st f fd)
    (h : ∀ (kV doc pm : Value) (an : Option Addr) (cdv ct : Value) (us : List Value), us.length = ps.length → bindArgs (PySem.W.fnOf x qual (defArgs st) (defBody st) (defScope st) .none kV doc pm an cdv ct) ⟨us, []⟩ = pure (ps.zip us)) : Binds K fd ps [] := by
  obtain ⟨oc, od, kV, doc, pm, an, cdv, ct, osl, rfl, lk, hcd⟩ := F.ex
  exact .all (h kV doc pm an cdv ct)
theorem fun_mk {x qual : Str} {st : Stmt} {f : Addr} {oc : Value} {od an : Option Addr} {osl : Array (Option Value)} {kV doc pm cdv ct : Value} (l : K.lookup f = some ⟨oc, od, .func (PySem.W.fnOf x qual (defArgs st) (defBody st) (defScope st) .none kV doc pm an cdv ct), osl⟩)
    (c : PySem.W.codeIn K cdv qual = true) (k : PySem.W.keepIn K (.ref f) = true) : Fun K x qual st f (PySem.W.fnOf x qual (defArgs st) (defBody st) (defScope st) .none kV doc pm an cdv ct) := ⟨⟨oc, od, kV, doc, pm, an, cdv, ct, osl, rfl, l, c⟩, k⟩
end
section
variable {X : Cx}
theorem pv (i : Nat) {x : Str} {pos : Pos} (hN : X.N[i]? = some x := by rfl) (hv : Vis X.env.scope x := by first | exact Or.inl rfl | exact Or.inr (Or.inl rfl) | exact Or.inr (Or.inr rfl)) (hd : (x == ("__debug__" : Str)) = false := by decide)
    (hcd : (x == ("__classdict__" : Str)) = false := by decide) : PE X (.Name x pos) (tVar i) := pe_var hN hv hd hcd
end
theorem iteF {A B : Prop} (h : B) : if false = true then A else B := by
  rw [if_neg Bool.false_ne_true]
  exact h
theorem iteT {A B : Prop} (h : A) : if true = true then A else B := by
  rw [if_pos rfl]
  exact h
theorem ite2 {c A B : Prop} [Decidable c] (h1 : c → A) (h2 : ¬ c → B) : if c then A else B := by
  by_cases h : c
  · rw [if_pos h]
    exact h1 h
  · rw [if_neg h]
    exact h2 h
def Same (H H' : Hp) : Prop := ∀ b o, H b = some o → H' b = some o
theorem Same.refl (H : Hp) : Same H H := fun _ _ h => h
theorem Same.trans {H H1 H2 : Hp} (a : Same H H1) (b : Same H1 H2) : Same H H2 := fun c o h => b c o (a c o h)
theorem Same.free {H H' : Hp} (e : Same H H') {l : Addr} (h : H' l = Option.none) : H l = Option.none := by
  cases q : H l with
  | none => rfl
  | some o =>
    rw [e l o q] at h
    cases h
theorem Same.seq {K : PySem.W.Frag} {H H' : Hp} {a : Addr} {xs : List V} (e : Same H H') (h : SqL K H a xs) : SqL K H' a xs := by
  rcases h with (h | ⟨o, h⟩) | h
  · exact .inl (.inl (e _ _ h))
  · exact .inl (.inr ⟨o, e _ _ h⟩)
  · exact .inr h
end L2
set_option maxHeartbeats 4000000
namespace L2
open PySem PySem.Spec PyProof.Rows
section
variable {X : Cx}
def Sml (i : Int) : Prop := i.natAbs < 2 ^ 4000
theorem Sml.bits {i : Int} (h : Sml i) : Builtin.Int.intBits i ≤ 4000 := intBits_le_iff.mpr h
theorem op_powB : OpR X (binaryOp .Pow) (rI (fun i j => 0 ≤ j ∧ (Builtin.Int.intBits i : Int) * j ≤ 2 ^ 27) fun i j => .int (i ^ j.toNat)) := opI fun _ _ _ _ _ _ _ hc q => pow_int hc.1 hc.2 q
theorem call_isinst : CallR X (.builtin "isinstance") (fun xs H Q => ∃ x t T b, xs = [x, .ty T] ∧ TyOf X.K H x t ∧ PySem.W.kitOne X.K t (.type T) = some b ∧ Q (.bl b) H) := by
  intro pins s σ H xs us Q I r h
  obtain ⟨x, t, T, b, rfl, ty, e, q⟩ := h
  obtain ⟨u, w', rfl, r1, r2⟩ := vals2 r
  cases r2
  exact isinst_ok I r1 ty e fun tk => ⟨.bl b, H, I.tok _, rfl, q⟩
end
theorem boot_isinstance : bootBuiltins "isinstance" = some (.builtin "isinstance") := PyProof.Rows.boot_isinstance
theorem boot_bool : bootBuiltins "bool" = some (.type "bool") := PyProof.Rows.boot_bool
theorem boot_tuple : bootBuiltins "tuple" = some (.type "tuple") := PyProof.Rows.boot_tuple
theorem boot_list : bootBuiltins "list" = some (.type "list") := PyProof.Rows.boot_list
theorem getD_in {α : Type} {ns : List α} {i : Nat} {d : α} (h : i < ns.length) : ns.getD i d = ns[i] := by simp [List.getD, h]
theorem getD_out {α : Type} {ns : List α} {i : Nat} {d : α} (h : ns.length ≤ i) : ns.getD i d = d := by simp [List.getD, h]
theorem same_new {H : Hp} {p : Addr} (h : H p = none) (o : HO) : Same H (upd H p o) := fun b u q => by rw [upd_ne (ne_of_none q h)]; exact q
theorem ofD {p : Prop} [Decidable p] (h : ¬ decide p = true) : ¬ p := of_decide_eq_false (Bool.eq_false_iff.mpr h)
theorem sub1 {cs : List (Str × Addr)} {x : Str} {c : Addr} (h : cs.lookup x = some c) : ∀ y c', [(x, c)].lookup y = some c' → cs.lookup y = some c' := fun y c' e => by
  by_cases z : y = x
  · subst z
    simp at e
    subst e
    exact h
  · have : (y == x) = false := by simpa using z
    simp [List.lookup, this] at e
theorem at_getD {ns : List Int} {i : Int} (h0 : 0 ≤ i) (h1 : i < (ns.length : Int)) : atI (ns.map V.int) i = some (.int (ns.getD i.toNat 0)) := by
  have hk : i.toNat < ns.length := by omega
  have ek : i = ((i.toNat : Nat) : Int) := by omega
  have z : atI (ns.map V.int) ((i.toNat : Nat) : Int) = some (.int ns[i.toNat]) := atI_nat (by rw [List.getElem?_map, List.getElem?_eq_getElem hk] <;> rfl)
  rw [← ek] at z
  rw [z, getD_in hk]
theorem md0 (c : Int) {m : Int} (h : 0 < m) : 0 ≤ c % m := Int.emod_nonneg _ (by omega)
theorem md1 (c : Int) {m : Int} (h : 0 < m) : c % m < m := Int.emod_lt_of_pos _ h
end L2
set_option maxHeartbeats 4000000
namespace L2
open PySem PySem.Spec PyProof.Rows
def cxComp (X : Cx) (N' : List Str) (scope : Scope) (cl : List (Str × Addr)) (C : Addr) (s3 : Shared) (H3 : Hp) (fp : List Addr) : Cx where
  prog := X.prog
  w := X.w
  K := X.K
  mg := X.mg
  base := X.base
  A := X.A
  N := N'
  s₀ := s3
  H₀ := H3
  env := compEnvC scope cl C X.env
  outer := X.stack
  stack := X.stack
  ex := fp
  fn := fun _ => false
  calm := X.calm
  pn := []
  xe := fun _ _ => False
def taken (σ : St) (fr : List Nat) : St := fr.map fun j => (σ[j]?).getD none
def CompGo (J : It) (te : TE) (st : St) (D : Addr) (H1 : Hp) (Q : VK) : Prop :=
  ∃ W : Nat → Nat → List V → Hp → Prop, (∃ m, W 0 m [] (upd H1 D (.lst []))) ∧ ∀ i m ys H2, W i m ys H2 →
    (J.stop i H2 ∧ Q (.ref D) H2) ∨ (J.go i H2 ∧ ∀ x H3, J.yld i H2 x H3 → te (some x :: st) H3 fun y H4 => H4 D = some (.lst ys) ∧ ys.length < sizeLine ∧ ∃ m', m' < m ∧ W (i + 1) m' (ys ++ [y]) (upd H4 D (.lst (ys ++ [y]))))
def tComp (wi : TI) (fr : List Nat) (te : TE) : TE := fun σ H Q => wi σ H fun J H1 => ∀ D, H1 D = none → CompGo J te (taken σ fr) D H1 Q
theorem compLoop_any {prog : Program} {w : World} {A : Around} {R : Result → Shared → Prop} {s : Shared} {elt tg iter : Expr} {scope : Scope} {pos : Pos} {it acc : Value} {env : Env} (Iv : Nat → Shared → Prop)
    (turn : ∀ k s, Iv k s → wpAny (model prog w) A (pyNext it) (fun r s1 => match r with
      | none => R (.ok .next) s1
      | some v => wpAny (model prog w) A (letOwnedTupleGo tg it v) (fun _ s2 => wpAny (model prog w) A (assign tg env v) (fun _ s3 => wpAny (model prog w) A (eval elt env) (fun y s4 =>
          wpAny (model prog w) A (call (.builtin "list.append") [acc, y]) (fun _ s5 => ∃ m, m < k ∧ Iv m s5) (fun _ _ => False) s4) (fun _ _ => False) s3) (fun _ _ => False) s2) (fun _ _ => False) s1) (fun _ _ => False) s)
    (k : Nat) (h : Iv k s) : codeAny (model prog w) A (.compLoop (.ListComp elt [⟨tg, iter, [], 0⟩] scope pos) 0 it acc env) R s := by
  refine codeAny_loop rfl Iv (fun k s hI => ?_) k h
  show wpAny _ _ ((compTurn (.ListComp elt [⟨tg, iter, [], 0⟩] scope pos) 0 it acc env).onRaise (fun e => do noteFrame e env; theTreesLotGoes e)) _ _ s
  refine wpAny_noted ?_
  rw [compTurn_list1]
  refine wpAny_bind (wpAny_standAt (wpAny_bind (wpAny_mono (turn k s hI) (fun r s1 h1 => ?_) fun _ _ f => f.elim)))
  cases r with
  | none => exact wpAny_pure h1
  | some v =>
    exact wpAny_bind (wpAny_mono h1 (fun _ s2 h2 => wpAny_bind (wpAny_mono h2 (fun _ s3 h3 => wpAny_bind (wpAny_bind (wpAny_mono h3 (fun y s4 h4 => wpAny_bind (wpAny_mono h4
      (fun _ s5 h5 => wpAny_pure (wpAny_pure ⟨rfl, h5⟩)) fun _ _ f => f.elim)) fun _ _ f => f.elim))) fun _ _ f => f.elim)) fun _ _ f => f.elim)
structure CompOk (X : Cx) (x : Str) (ts : List (Str × Nat)) (scope : Scope) (cl : List (Str × Addr)) : Prop where
  clos : closureFor scope X.env = pure cl
  sub : ∀ y c, cl.lookup y = some c → X.env.cells.lookup y = some c
  nocell : (scope.names.all fun p => p.2 != .cell) = true
  kind : scope.kind = .function
  locs : (scope.names.all fun p => p.2 != .local || scope.names.lookup p.1 == some .local) = true
  var : scope.names.lookup x = some .local
  nd : (x :: ts.map (·.1)).Nodup
  around : (ts.all fun p => decide (X.N[p.2]? = some p.1) && (X.env.kindOf p.1 == some .cell || X.env.kindOf p.1 == some .free) && (cl.lookup p.1).isSome &&
    ((relabel scope X.env).names.lookup p.1 == some .cell || (relabel scope X.env).names.lookup p.1 == some .free)) = true
  has : ((relabel scope X.env).names.all fun p => !(p.2 == .cell || p.2 == .free) || (cl.lookup p.1).isSome) = true
abbrev nmsOf (x : Str) (ts : List (Str × Nat)) : List Str := x :: ts.map (·.1)
abbrev sltOf (ts : List (Str × Nat)) : List Nat := ts.map (·.2)
theorem CompOk.nocell' {X : Cx} {x : Str} {ts : List (Str × Nat)} {scope : Scope} {cl : List (Str × Addr)} (O : CompOk X x ts scope cl) : ∀ y ∈ scope.names, y.2 ≠ .cell := fun y hy e => by
  have := List.all_eq_true.mp O.nocell y hy
  rw [e] at this
  cases this
theorem CompOk.locs' {X : Cx} {x : Str} {ts : List (Str × Nat)} {scope : Scope} {cl : List (Str × Addr)} (O : CompOk X x ts scope cl) : ∀ y ∈ scope.names, y.2 = .local → scope.names.lookup y.1 = some .local := fun y hy e => by
  have h := List.all_eq_true.mp O.locs y hy
  rw [e] at h
  rcases Bool.or_eq_true_iff.mp h with z | z
  · cases z
  · exact beq_iff_eq.mp z
theorem CompOk.from' {X : Cx} {x : Str} {ts : List (Str × Nat)} {scope : Scope} {cl : List (Str × Addr)} (O : CompOk X x ts scope cl) : ∀ (i : Nat) (y : Str), (nmsOf x ts)[i + 1]? = some y → ∃ j, (sltOf ts)[i]? = some j ∧ X.N[j]? = some y ∧ (X.env.kindOf y = some .cell ∨ X.env.kindOf y = some .free) ∧ (cl.lookup y).isSome = true ∧
    ((relabel scope X.env).names.lookup y = some .cell ∨ (relabel scope X.env).names.lookup y = some .free) := fun i y e => by
  have e1 : (ts.map (·.1))[i]? = some y := by simpa using e
  rw [List.getElem?_map] at e1
  cases q : ts[i]? with
  | none => rw [q] at e1; cases e1
  | some p =>
    rw [q] at e1
    have e2 : p.1 = y := Option.some.inj e1
    subst e2
    have h := List.all_eq_true.mp O.around p (List.mem_of_getElem? q)
    simp only [Bool.and_eq_true, Bool.or_eq_true, beq_iff_eq, decide_eq_true_eq] at h
    obtain ⟨⟨⟨h1, h2⟩, h3⟩, h4⟩ := h
    refine ⟨p.2, ?_, h1, h2, h3, h4⟩
    show (ts.map (·.2))[i]? = some p.2
    rw [List.getElem?_map, q] <;> rfl
theorem CompOk.has' {X : Cx} {x : Str} {ts : List (Str × Nat)} {scope : Scope} {cl : List (Str × Addr)} (O : CompOk X x ts scope cl) : ∀ y, ((relabel scope X.env).names.lookup y = some .cell ∨ (relabel scope X.env).names.lookup y = some .free) → (cl.lookup y).isSome = true := fun y h => by
  have go : ∀ k : NameKind, (k = .cell ∨ k = .free) → (relabel scope X.env).names.lookup y = some k → (cl.lookup y).isSome = true := fun k hk e => by
    have z := List.all_eq_true.mp O.has (y, k) (PySem.mem_of_lookup e)
    rcases Bool.or_eq_true_iff.mp z with z | z
    · rcases hk with e | e <;> (rw [e] at z; cases z)
    · exact z
  rcases h with h | h
  · exact go _ (.inl rfl) h
  · exact go _ (.inr rfl) h
section
variable {X : Cx} {elt iter : Expr} {x : Str} {px pos : Pos} {scope : Scope} {cl : List (Str × Addr)} {ts : List (Str × Nat)} {wi : TI} {te : TE}
theorem comp_ok {pins : List (Addr × Obj)} {σ : St} {H3 : Hp} {s3 : Shared} {fp : List Addr} (O : CompOk X x ts scope cl) (I3 : Inv X pins σ H3 s3) (hfp : ∀ b ∈ fp, FpOk X pins H3 b ∧ b < s3.heap.objs.size) :
    (cxComp X (nmsOf x ts) scope cl s3.heap.objs.size s3 H3 fp).Ok where
  mod := I3.ok.mod
  kind := O.kind
  glob := I3.ok.glob
  blt := I3.ok.blt
  above := Nat.le_refl _
  inj := fun y z c h1 h2 => I3.ok.inj y z c (O.sub y c h1) (O.sub z c h2)
  has := fun y h => Option.isSome_iff_exists.mp (O.has' y h)
  cab := fun y c h => by cases h
  hd := I3.ok.hd
  frames := I3.ok.frames
  stk := .inl rfl
  exf := fun b hb => ⟨Nat.ne_of_lt (hfp b hb).2, fun y c e => (hfp b hb).1.2.2.2.2.1 y c (O.sub y c e)⟩
  bs := fun b o e => I3.bs b o e
  bsz := Nat.le_trans I3.ok.bsz I3.sz
  noex := fun b o e hb => by
    rcases (hfp b hb).1.2.2.2.1 with z | z
    · exact I3.ok.noex b o e z
    · exact absurd (Nat.lt_of_lt_of_le (Heap.lt_size (I3.ok.bs b o e).1) z) (Nat.lt_irrefl _)
  exfs := fun b hb hz => by
    rcases List.mem_cons.mp (I3.stkSub b hz) with e | e
    · exact (hfp b hb).1.2.1 e
    · exact (hfp b hb).1.2.2.1 e
  funs := I3.stack
  frf := I3.stkFree
theorem comp_start {pins : List (Addr × Obj)} {σ : St} {H3 : Hp} {s3 : Shared} {fp : List Addr} {h1 : Heap} {tk : Nat} (O : CompOk X x ts scope cl) (I3 : Inv X pins σ H3 s3) (hfp : ∀ b ∈ fp, FpOk X pins H3 b ∧ b < s3.heap.objs.size)
    (hns : h1.Ns s3.heap.objs.size fun _ => none) (old : ∀ b o, s3.heap.get? b = some o → h1.get? b = some o) :
    Inv (cxComp X (nmsOf x ts) scope cl s3.heap.objs.size s3 H3 fp) [] (none :: taken σ (sltOf ts)) H3 { s3 with heap := h1, toks := tk } := by
  refine ⟨comp_ok O I3 hfp, rfl, I3.bare, Un.kept old, ⟨_, hns, fun i y v e1 e2 e3 => ?_⟩, fun y c e => ?_, I3.hok.fresh (Nat.le_refl _), fun y c e => I3.freeC y c (O.sub y c e), fun p hp => absurd (show p ∈ ([] : List (Addr × Obj)) from hp) (by simp), I3.hok.kept old, ?_⟩
  · cases i with
    | zero => simp at e2
    | succ i =>
      obtain ⟨j, hj, hN, hk, hcl, hk2⟩ := O.from' i y e1
      have e2' : σ[j]? = some (some v) := by
        have q : (taken σ (sltOf ts))[i]? = some (some v) := by simpa using e2
        unfold taken at q
        rw [List.getElem?_map, hj] at q
        have q' : (σ[j]?).getD none = some v := Option.some.inj q
        cases z : σ[j]? with
        | none => rw [z] at q'; cases q'
        | some w => rw [z] at q'; rw [show w = some v from q']
      obtain ⟨m, hn, hl⟩ := I3.loc
      have vis : Vis X.env.scope y := hk.elim (fun z => .inr (.inl z)) fun z => .inr (.inr z)
      obtain ⟨u, r, l⟩ := hl j y v hN e2' vis
      obtain ⟨c, hc⟩ := Option.isSome_iff_exists.mp hcl
      refine ⟨u, r, .inr ⟨hk2, c, hc, ?_⟩⟩
      rcases l with ⟨k, _⟩ | ⟨_, c', hc', z⟩
      · rcases hk with hk | hk
        · rw [k] at hk; cases hk
        · rw [k] at hk; cases hk
      · rw [O.sub y c hc] at hc'
        cases hc'
        obtain ⟨o, ho, hd⟩ := z
        exact ⟨o, old c o ho, hd⟩
  · obtain ⟨v, o, ho, hd⟩ := I3.cell y c (O.sub y c e)
    exact ⟨v, o, old c o ho, hd⟩
  · show (none :: taken σ (sltOf ts)).length = (nmsOf x ts).length
    simp [taken]
theorem pe_comp (hc : X.calm = true) (O : CompOk X x ts scope cl) (hi : PI X (.Name x px) iter wi) (he : ∀ C s3 H3 fp, PE (cxComp X (nmsOf x ts) scope cl C s3 H3 fp) elt te)
    (hs : ∀ x, foldedSetIterable iter X.env x = pure x := by intro _; rfl) : PE X (.ListComp elt [⟨.Name x px, iter, [], 0⟩] scope pos) (tComp wi (sltOf ts) te) := by
  intro pins s σ H Q I h
  rw [eval_ListComp]
  refine wpAny_comprehension_free (use := none) rfl hs O.clos O.kind O.locs' (thn (hi pins s σ H _ I h) fun v s1 h1 => thn h1 fun itv s2 h2 => ?_)
  obtain ⟨it, fp, tn, J, H2, rfl, I2, T, st2, f2, q⟩ := h2
  have hD : H2 s2.heap.objs.size = none := I2.hok.fresh (Nat.le_refl _)
  obtain ⟨W, ⟨m0, w0⟩, turn⟩ := q s2.heap.objs.size hD
  refine wpAny_newObj_type ?_
  have I3 : Inv X pins σ (upd H2 s2.heap.objs.size (.lst [])) { s2 with heap := s2.heap.push { cls := .type "list", dict := none, data := .seq ([] : List Value).toArray } } :=
    I2.laid (a := s2.heap.objs.size) (o := .lst []) (t' := s2.toks) (fun b u e => Heap.get?_push_of_some _ e) (Nat.le_refl _) ⟨Nat.zero_le _, [], 0, .nil, Heap.get?_push_size _ rfl⟩
  generalize hs3 : ({ s2 with heap := s2.heap.push { cls := .type "list", dict := none, data := .seq ([] : List Value).toArray } } : Shared) = s3 at I3
  have sz3 : s3.heap.objs.size = s2.heap.objs.size + 1 := by rw [← hs3, Heap.size_push]
  have old3 : ∀ b u, s2.heap.get? b = some u → s3.heap.get? b = some u := fun b u e => by rw [← hs3]; exact Heap.get?_push_of_some _ e
  generalize hH3 : upd H2 s2.heap.objs.size (.lst []) = H3 at I3 w0
  have H3D : H3 s2.heap.objs.size = some (.lst []) := by rw [← hH3]; exact upd_same
  have fp2 : ∀ b ∈ fp, b < s2.heap.objs.size := fun b hb => by
    obtain ⟨o, e, _⟩ := T.obj _ _ st2 b hb
    exact Heap.lt_size e
  have hfp : ∀ b ∈ fp, FpOk X pins H3 b ∧ b < s3.heap.objs.size := fun b hb => by
    refine ⟨⟨?_, (f2 b hb).2⟩, by rw [sz3]; exact Nat.lt_succ_of_lt (fp2 b hb)⟩
    rw [← hH3, upd_ne (Nat.ne_of_lt (fp2 b hb))]
    exact (f2 b hb).1
  refine wpAny_newFunctionEnv O.nocell' (by intro y hy; simp at hy) (fun h₁ hns₁ hsb₁ => ?_) O.kind
  have old : ∀ b o, s3.heap.get? b = some o → h₁.get? b = some o := fun b o e => hsb₁.extBut b o (Nat.ne_of_lt (Heap.lt_size e)) (Heap.get?_push_of_some _ e)
  have start : Inv (cxComp X (nmsOf x ts) scope cl s3.heap.objs.size s3 H3 fp) [] (none :: taken σ (sltOf ts)) H3 { s3 with heap := h₁, toks := s3.toks + 0 } := comp_start O I3 hfp hns₁ old
  have st4 : tn 0 h₁ := T.keep _ _ _ st2 fun b hb o e => old b o (old3 b o e)
  have okX : ∀ {H' : Hp}, (∀ b ∈ fp, H' b = none) → ∀ b ∈ fp, FpOk (cxComp X (nmsOf x ts) scope cl s3.heap.objs.size s3 H3 fp) [] H' b := fun hn b hb => by
    refine ⟨hn b hb, Nat.ne_of_lt (hfp b hb).2, fun z => ?_, .inl hb, fun y c e => (f2 b hb).2.2.2.2.1 y c (O.sub y c e), fun p hp => absurd (show p ∈ ([] : List (Addr × Obj)) from hp) (by simp)⟩
    rcases List.mem_cons.mp (I3.stkSub b z) with e | e
    · exact (f2 b hb).2.1 e
    · exact (f2 b hb).2.2.1 e
  have loop : ∀ s₄ : Shared, s₄ = { s3 with heap := h₁, toks := s3.toks + 0 } →
      codeAny (model X.prog X.w) X.A (.compLoop (.ListComp elt [⟨.Name x px, iter, [], 0⟩] scope pos) 0 (.ref it) (.ref s2.heap.objs.size) (compEnvC scope cl s3.heap.objs.size X.env))
        (compPost (model X.prog X.w) X.A X.xe none (EP X pins σ Q) (.ref s2.heap.objs.size) s3.heap.objs.size) s₄ := by
    rintro s₄ rfl
    refine compLoop_any (fun n s' => ∃ i ys σ0 H', Inv (cxComp X (nmsOf x ts) scope cl s3.heap.objs.size s3 H3 fp) [] (σ0 :: taken σ (sltOf ts)) H' s' ∧ tn i s'.heap ∧ (∀ b ∈ fp, H' b = none) ∧ W i n ys H') ?_ m0
      ⟨0, [], none, H3, start, st4, fun b hb => (hfp b hb).1.1, w0⟩
    rintro n s5 ⟨i, ys, σ0, H5, I5, st5, fr5, w5⟩
    rcases turn i n ys H5 w5 with ⟨stop, qn⟩ | ⟨go, step⟩
    · refine thn (T.done (cxComp X (nmsOf x ts) scope cl s3.heap.objs.size s3 H3 fp) rfl rfl rfl hc i [] s5 (σ0 :: taken σ (sltOf ts)) H5 _ I5 (okX fr5) st5 stop) fun r s6 ⟨hr, I6⟩ => ?_
      subst hr
      obtain ⟨m, hn, _⟩ := id I6.loc
      refine ⟨m, hn, fun h' sb => ?_⟩
      have u6 : Un (frs X.stack) fp H3 H5 s3.heap s6.heap := I6.base
      have neC : ∀ b o, s3.heap.get? b = some o → b ≠ s3.heap.objs.size := fun b o e => Nat.ne_of_lt (Heap.lt_size e)
      have un : Un (frs X.stack) fp H3 H5 s3.heap h' := ⟨fun b o e n1 hb hx => (sb.2 b (neC b o e)).trans (u6.keep b o e n1 hb hx), fun b o e n1 hb hx => by
          obtain ⟨sl, z⟩ := u6.slot b o e n1 hb hx
          exact ⟨sl, (sb.2 b (neC b o e)).trans z⟩, u6.free, fun b o e hx => by
          obtain ⟨o', z⟩ := u6.there b o e hx
          exact ⟨o', (sb.2 b (neC b o e)).trans z⟩, u6.tups, u6.frzs, u6.tbls⟩
      have hok : HOk X.prog X.w H5 h' := fun b u e => by
        refine (I6.hok b u e).stay (fun c v hc' z => (sb.2 c ?_).trans z) (fun _ z => z) fun _ _ z => z
        rintro rfl
        have fC : H5 s3.heap.objs.size = none := I6.free
        rcases hc' with z' | z'
        · rw [← z', fC] at e; cases e
        · rw [fC] at z'; cases z'
      refine ⟨.ref s2.heap.objs.size, H5, I3.call' (s' := { s6 with heap := h' }) (ch := fp) ?_ un hok I6.bare (fun b hb => ⟨(f2 b hb).2.2.2.1, (f2 b hb).2.1, (f2 b hb).2.2.2.2.1, (f2 b hb).2.2.2.2.2⟩), rfl, qn⟩
      exact I6.os
    · refine thn (T.item (cxComp X (nmsOf x ts) scope cl s3.heap.objs.size s3 H3 fp) rfl rfl rfl hc i [] s5 (σ0 :: taken σ (sltOf ts)) H5 _ I5 (okX fr5) st5 go) fun r s6 ⟨u, hr, h6⟩ => ?_
      subst hr
      refine thn h6 fun _ s7 ⟨z, H7, I7, rz, yz, st7, fr7⟩ => ?_
      have I7' := I7.pinned (okX fr7) (T.obj _ _ st7)
      have PG' : PG (cxComp X (nmsOf x ts) scope cl s3.heap.objs.size s3 H3 fp) (.Name x px) (gName 0) := pg_name (i := 0) O.nd rfl (.inl (lookup_relabel_local O.var)) (.inr (lookup_relabel_local O.var))
      refine thn (PG' _ s7 _ H7 z u (fun σ' H' => σ' = some z :: taken σ (sltOf ts) ∧ H' = H7) I7' rz ⟨rfl, rfl⟩) fun _ s8 ⟨σ8, H8, I8, e8, eh8⟩ => ?_
      subst e8 eh8
      refine thn (he s3.heap.objs.size s3 H3 fp _ s8 _ H8 _ I8 (step z H8 yz)) fun y s9 ⟨vy, H9, I9, ry, hD9, hl9, m', hm', w9⟩ => ?_
      refine thn (mt_append (X := cxComp X (nmsOf x ts) scope cl s3.heap.objs.size s3 H3 fp) _ s9 _ H9 (.ref s2.heap.objs.size) [vy] (.ref s2.heap.objs.size) [y] (fun _ H10 => H10 = upd H9 s2.heap.objs.size (.lst (ys ++ [vy]))) I9 rfl (.cons ry .nil) ⟨_, ys, vy, rfl, rfl, hD9, hl9, rfl⟩) fun _ s10 ⟨_, H10, I10, _, e10⟩ => ?_
      subst e10
      refine ⟨m', hm', i + 1, ys ++ [vy], some z, _, I10.unpinned, T.keep _ _ _ st7 fun b hb o e => (I10.pin (b, o) (List.mem_append_right _ (List.mem_append_right _ (mem_pinsAt hb e)))).1, fun b hb => ?_, w9⟩
      obtain ⟨o, e, d⟩ := T.obj _ _ st7 b hb
      exact (I10.pin (b, o) (List.mem_append_right _ (List.mem_append_right _ (mem_pinsAt hb e)))).2.1
  have hst := codeAny_compStart_list (loop _ rfl) (T.self X.A 0 _ _ _ st4 (loop _ rfl))
  exact hst
end
end L2
set_option maxHeartbeats 4000000
namespace L2
open PySem PySem.Spec PyProof.Rows
inductive Th where
  | non | bl (b : Bool) | int (i : Int) | str (x : Str) | lst (xs : List Th) | tup (xs : List Th) | emp
mutual
def Den (H : Hp) : Th → V → Prop
  | .non, v => v = .non
  | .bl b, v => v = .bl b
  | .int i, v => v = .int i
  | .str x, v => v = .str x
  | .lst ts, v => ∃ a xs, v = .ref a ∧ H a = some (.lst xs) ∧ Dens H ts xs
  | .tup ts, v => ∃ a xs, v = .ref a ∧ H a = some (.tup xs) ∧ Dens H ts xs
  | .emp, v => ∃ a, v = .ref a ∧ H a = some (.dK [])
def Dens (H : Hp) : List Th → List V → Prop
  | [], xs => xs = []
  | t :: ts, xs => ∃ y ys, xs = y :: ys ∧ Den H t y ∧ Dens H ts ys
end
mutual
theorem Den.keep {H H' : Hp} (s : Same H H') : ∀ {t : Th} {v : V}, Den H t v → Den H' t v
  | .non, _, h => h
  | .bl _, _, h => h
  | .int _, _, h => h
  | .str _, _, h => h
  | .lst _, _, ⟨a, xs, e, h, d⟩ => ⟨a, xs, e, s _ _ h, Dens.keep s d⟩
  | .tup _, _, ⟨a, xs, e, h, d⟩ => ⟨a, xs, e, s _ _ h, Dens.keep s d⟩
  | .emp, _, ⟨a, e, h⟩ => ⟨a, e, s _ _ h⟩
theorem Dens.keep {H H' : Hp} (s : Same H H') : ∀ {ts : List Th} {xs : List V}, Dens H ts xs → Dens H' ts xs
  | [], _, h => h
  | _ :: _, _, ⟨y, ys, e, d, ds⟩ => ⟨y, ys, e, Den.keep s d, Dens.keep s ds⟩
end
theorem Dens.len {H : Hp} : ∀ {ts : List Th} {xs : List V}, Dens H ts xs → xs.length = ts.length
  | [], _, h => by rw [show _ = [] from h]; rfl
  | _ :: _, _, ⟨y, ys, e, d, ds⟩ => by rw [e, List.length_cons, List.length_cons, Dens.len ds]
theorem Dens.get {H : Hp} : ∀ {ts : List Th} {xs : List V} {i : Nat} {t : Th}, Dens H ts xs → ts[i]? = some t → ∃ v, xs[i]? = some v ∧ Den H t v
  | _ :: _, _, 0, t, ⟨y, ys, e, d, ds⟩, h => by
    rw [List.getElem?_cons_zero] at h
    cases h
    exact ⟨y, by rw [e]; rfl, d⟩
  | _ :: _, _, i + 1, t, ⟨y, ys, e, d, ds⟩, h => by
    rw [List.getElem?_cons_succ] at h
    obtain ⟨v, h1, h2⟩ := Dens.get ds h
    exact ⟨v, by rw [e, List.getElem?_cons_succ]; exact h1, h2⟩
def tyTh : Th → Value
  | .non => .type "NoneType"
  | .bl _ => .type "bool"
  | .int _ => .type "int"
  | .str _ => .type "str"
  | .lst _ => .type "list"
  | .tup _ => .type "tuple"
  | .emp => .type "dict"
theorem Den.ty {K : PySem.W.Frag} {H : Hp} : ∀ {t : Th} {v : V}, Den H t v → TyOf K H v (tyTh t)
  | .non, _, h => by cases (show _ = V.non from h); exact .non
  | .bl b, _, h => by cases (show _ = V.bl b from h); exact .bl b
  | .int i, _, h => by cases (show _ = V.int i from h); exact .int i
  | .str x, _, h => by cases (show _ = V.str x from h); exact .str x
  | .lst _, _, ⟨a, xs, e, h, _⟩ => by subst e; exact .lst h
  | .tup _, _, ⟨a, xs, e, h, _⟩ => by subst e; exact .tup h
  | .emp, _, ⟨a, e, h⟩ => by subst e; exact .dK h
def isBoolT : Th → Bool
  | .bl _ => true
  | _ => false
theorem kit_bool {K : PySem.W.Frag} (t : Th) : PySem.W.kitOne K (tyTh t) (.type "bool") = some (isBoolT t) := by cases t <;> rfl
section
variable {X : Cx}
theorem call_isinstD : CallR X (.builtin "isinstance") (fun xs H Q => ∃ x t T b, xs = [x, .ty T] ∧ Den H t x ∧ PySem.W.kitOne X.K (tyTh t) (.type T) = some b ∧ Q (.bl b) H) := by
  intro pins s σ H xs us Q I r h
  obtain ⟨x, t, T, b, e, d, k, q⟩ := h
  exact call_isinst pins s σ H xs us Q I r ⟨x, tyTh t, T, b, e, d.ty, k, q⟩
mutual
def depT : Th → Nat
  | .lst ts => depTs ts + 1
  | .tup ts => depTs ts + 1
  | .emp => 1
  | .non | .bl _ | .int _ | .str _ => 0
def depTs : List Th → Nat
  | [] => 0
  | t :: ts => max (depT t) (depTs ts)
end
theorem depTs_mem : ∀ {ts : List Th} {i : Nat} {t : Th}, ts[i]? = some t → depT t ≤ depTs ts
  | _ :: _, 0, _, h => by
    rw [List.getElem?_cons_zero] at h
    cases h
    exact Nat.le_max_left _ _
  | _ :: _, _ + 1, _, h => by
    rw [List.getElem?_cons_succ] at h
    exact Nat.le_trans (depTs_mem h) (Nat.le_max_right _ _)
end
end L2
set_option maxHeartbeats 4000000
namespace L2
open PySem PySem.Spec PyProof.Rows
theorem ObjOk.there {P : Program} {w : World} {H : Hp} {h : Heap} {a : Addr} : ∀ {o : HO}, ObjOk P w H h a o → ∃ ob, h.get? a = some ob
  | .lst _, ⟨_, _, _, _, e⟩ => ⟨_, e⟩
  | .tup _, ⟨_, _, _, o, e, _⟩ => ⟨o, e⟩
  | .dK _, ⟨_, _, _, _, o, _, _, e, _⟩ => ⟨o, e⟩
  | .dT _, ⟨_, _, _, _, o, _, _, e, _⟩ => ⟨o, e⟩
  | .set _ _, ⟨o, _, _, _, e, _⟩ => ⟨o, e⟩
  | .ins _ _ _, ⟨_, _, _, e, _⟩ => ⟨_, e⟩
  | .own _, ⟨o, e⟩ => ⟨o, e⟩
  | .xd _, ⟨_, ⟨o, _, _, e, _⟩, _⟩ => ⟨o, e⟩
  | .rng _ _, ⟨_, _, _, e⟩ => ⟨_, e⟩
  | .frz _ _, ⟨e, _⟩ => ⟨_, e⟩
  | .tbl _, e => ⟨_, e⟩
  | .met _ _, e => ⟨_, e⟩
  | .ext _, ⟨_, ⟨o, e⟩, _⟩ => ⟨o, e⟩
def Fly (l : List Env) (h0 : Heap) (H' : Hp) (e : Addr) (cls : Value) (h : Heap) : Prop :=
  ∃ (B : Heap) (t : Addr), Heap.FlyingW B l e cls (.ref t) h ∧ h0.get? e = none ∧ H' e = none ∧
    ∀ b o, h.get? b = some o → ((∃ o', h0.get? b = some o') ∨ ∃ u, H' b = some u) → b ∉ frs l → B.get? b = some o
def CXX (P : Program) (w : World) : CXT := fun outer H s E e s' =>
  ∃ a cls H', e = .ref a ∧ s'.os = s.os ∧ AllBare s'.gens ∧ Un (frs outer) [] H H' s.heap s'.heap ∧ HOk P w H' s'.heap ∧ Fly outer s.heap H' a cls s'.heap ∧ E cls none H'
structure DefCx (X : Cx) : Prop where
  st : X.stack = X.env :: X.outer
  fr : X.env.frame = some X.env.locals
  ex : X.ex = []
section
variable {X : Cx} {pins : List (Addr × Obj)} {σ : St} {H : Hp} {s : Shared} {E : XK} {M : Model}
end
end L2
set_option maxHeartbeats 4000000
namespace L2
open PySem PySem.Spec PyProof.Rows
abbrev vbm : List Value := [.type "ValueError", .type "Exception", .type "BaseException", .type "object"]
structure XCls (K : PySem.W.Frag) (mg : Str → Option Value) (x : Str) (C : Addr) : Prop where
  at_ : mg x = some (.ref C)
  ok : PySem.W.excIn K C vbm "ValueError.__new__" = true
section
variable {X : Cx} {E : XK} {x : Str} {C : Addr} {np cpos pos : Pos} {e : Expr} {es : List Expr} {t : TA}
end
section
variable {P : Program} {w : World} {K : PySem.W.Frag} {mg : Str → Option Value} {base : Heap} {N : List Str} {qual : Str} {scope : Scope} {f : Addr} {cd : Value} {A : Around} {outer : List Env} {s : Shared} {H : Hp} {E : XK}
theorem Fun.okX {x : Str} {st : Stmt} {fd : FuncData} {ps : List Str} {k : Nat} {sp : Sp} (F : Fun K x qual st f fd) (S : FnScope N ps (defScope st)) (len : ∀ vs H Q E, sp vs H Q E → vs.length = ps.length)
    (hbody : ∀ (cdv : Value) (A : Around) (outer : List Env) (s : Shared) (H : Hp) (vs : List V) (Q : VK) (E : XK), Room k (A.deeper (envOfC qual (defScope st) s.heap.objs.size f cdv)) → sp vs H Q E →
      ∃ t, PSs (cxOf (CXX P w) P w K mg base N qual (defScope st) f cdv A outer s H E) (defBody st) t ∧ t { nx := fun _ H' => Q .non H', rt := Q } (start N vs) H) : FnOk P w K mg base (CXX P w) (k + 1) f fd ps sp := by
  obtain ⟨oc, od, kV, doc, pm, an, cdv, ct, osl, rfl, lk, hcd⟩ := F.ex
  exact fn_of lk hcd S len fun A outer s H vs Q E hr hsp => hbody cdv A outer s H vs Q E hr hsp
end
theorem FnOk.calm {P : Program} {w : World} {K : PySem.W.Frag} {mg : Str → Option Value} {base : Heap} {CX : CXT} {k : Nat} {f : Addr} {fd : FuncData} {ps : List Str} {sp : Sp} (F : FnOk P w K mg base CX0 k f fd ps sp) : FnOk P w K mg base CX k f fd ps sp :=
  ⟨F.len, fun A outer s H args us vs Q E hr he hb hv hs => codeAny_mono (F.run A outer s H args us vs Q E hr he hb hv hs) fun r s' h => by
    cases r with
    | ok fl => cases fl <;> exact h
    | error e => exact False.elim h⟩
section
variable {X : Cx}
theorem PS.nox {st : Stmt} {t : TS} (h : PS X.nox st t) : PS X st t := fun pins s σ H D I hw =>
  wpAny_mono (h pins s σ H D (I.wish _) hw) (fun _ _ q => q.unwish) fun _ _ z => z.elim
end
end L2
set_option maxHeartbeats 4000000
namespace L2
open PySem PySem.Spec PyProof.Rows
abbrev Cx.held (X : Cx) (e : Addr) (oe : Obj) : Cx := { X with A := X.A.mark (some (.ref e)), calm := false, pn := (e, oe) :: X.pn, xe := fun _ _ => False }
section
variable {X : Cx} {pins pins' : List (Addr × Obj)} {σ : St} {H : Hp} {s : Shared} {xe : Value → Shared → Prop} {e : Addr} {oe : Obj}
theorem Inv.held (I : Inv X pins σ H s) (he : s.heap.get? e = some oe) (hn : H e = none) (hL : e ≠ X.env.locals) (hf : e ∉ X.fs) (hc : ∀ v, oe.data ≠ .cell v) : Inv (X.held e oe) pins σ H s := by
  have ok := I.ok
  refine ⟨⟨ok.mod, ok.kind, ok.glob, ok.blt, ok.above, ok.inj, ok.has, ok.cab, (fun z => by cases z), ok.frames, ok.stk, ok.exf, ok.bs, ok.bsz, ok.noex, ok.exfs, ok.funs, ok.frf⟩, I.os, I.bare, I.base, I.loc, I.cell, I.free, I.freeC, fun p hp => ?_, I.hok, I.len⟩
  rcases List.mem_cons.mp hp with z | z
  · subst z; exact ⟨he, hn, hL, hf, hc⟩
  · exact I.pin p z
end
section
variable {X : Cx} {CX : CXT} {k : Nat} {f : Addr} {fd : FuncData} {ps : List Str} {sp : Sp} {dvs : List V} {ds : List Value} {E : St → XK} {x : Str} {p pos : Pos} {e : Expr} {es : List Expr} {t : TA}
end
structure Catch (K : PySem.W.Frag) (CS : Addr) : Prop where
  ty : PySem.W.typeIn K (.ref CS) = some (.type "type")
  isc : PySem.W.isClsIn K CS = true
  base : PySem.W.subIn K (.ref CS) (.type "BaseException") = some true
end L2
set_option maxHeartbeats 4000000
namespace L2
open PySem PySem.Spec PyProof.Rows
def Bg (i : Int) : Prop := Builtin.Int.intBits i ≤ 1048576
theorem Bg.le {i j : Int} (h : Bg i) (hj : j.natAbs ≤ i.natAbs) : Bg j := intBits_le_iff.mpr (Nat.lt_of_le_of_lt hj (intBits_le_iff.mp h))
theorem Bg.pow {i : Int} (h : Bg i) {j : Int} (h0 : 0 ≤ j) (h1 : j ≤ 127) : 0 ≤ j ∧ (Builtin.Int.intBits i : Int) * j ≤ 2 ^ 27 := by
  refine ⟨h0, ?_⟩
  have h' : (Builtin.Int.intBits i : Int) ≤ 1048576 := by unfold Bg at h; omega
  have := Int.mul_le_mul h' h1 h0 (by decide)
  have e : (1048576 : Int) * 127 ≤ 2 ^ 27 := by decide
  omega
theorem Bg.zero : Bg 0 := by unfold Bg Builtin.Int.intBits; decide
open PySem.W in
theorem bg_of_lay {ns : List Int} (h : WData.layableAll [WData.list (ns.map WData.int)] = true) : ∀ i ∈ ns, Bg i := fun i hi => by
  have h1 := layableW_arg h _ (List.mem_singleton.mpr rfl)
  have h2 := layableW_item h1 (.int i) (List.mem_map.mpr ⟨i, hi, rfl⟩)
  have h3 := (layableW_iff.mp h2).2.2
  exact h3
open PySem.W in
theorem attachB {l : OpenLaw} {n : Nat} {q : Program} {loose : List Str} {XP : (Str → Option Value) → Heap → Prop} {YP : World → Heap → Prop} {d : DefRec}
    (hn : l.most = some n) (hdf : d.params.defaults = [])
    (run : ∀ (w : World) (s0 s1 : Shared) (mg mb : Str → Option Value) (fa : Addr) (o : Obj) (pm cd doc : Value) (a : Addr) (vs : List Value) (ns : List Int),
      Ground q loose [] XP w s0 mg mb s1.heap → YP w s1.heap →
      s1.heap.get? fa = some o → o.data = .func (Calls.docDef d.name d.params d.body d.scope pm cd doc) → s1.heap.CodeRec cd d.name → mg d.name = some (.ref fa) →
      s1.heap.get? a = some { cls := .type "list", data := .seq vs.toArray } → IntsAre vs ns → ns.length ≤ n → (∀ i ∈ ns, Bg i) → s1.gens = #[] →
      codeAny (model l.prog w) callerA (.call (.ref fa) ⟨[.ref a], []⟩) (fun r s' => r = .ok (.ret (.bool true)) ∧ OldK s1.heap s'.heap ∧ s'.os = s1.os ∧ AllBare s'.gens) s1) :
    WalkO q loose XP YP l.row.toRowW d [] (fun f vs => PySem.call f vs) := by
  intro w s0 s1 mg mb G Y fa o pm cd doc dV kV ho hd hcd hD hmg hg args vals as hpre hlay hrd hwl hlo
  obtain rfl : dV = .none := Dflts.none hD hdf
  obtain rfl : kV = .none := Dflts.noKw hD
  obtain ⟨a, vs, ns, rfl, rfl, hobj, hints, hlen⟩ := Att.script_of hn hpre hwl
  have hbg := bg_of_lay hlay
  refine enter_call (codeAny_mono (run w s0 s1 mg mb fa o pm cd doc a vs ns G Y ho (fd_plain hd) hcd hmg hobj hints hlen hbg hg) fun r s' hq => ?_)
  obtain ⟨e1, h2, h3, h4⟩ := hq
  subst e1
  exact ⟨.inl ⟨.bool true, .bool true, [], rfl, fun _ => rfl, .bool true, Att.post_true l _, fun _ => ⟨List.Pairwise.nil, fun _ hm => (nomatch hm)⟩⟩, h2, h3, h4⟩
theorem walk_ofB {l : PySem.W.OpenLaw} {n k : Nat} {q : Program} {loose : List Str} {XP : (Str → Option Value) → Heap → Prop} {YP : World → Heap → Prop} {d : DefRec} {K : Params → PySem.W.Frag} {CX : World → CXT} {sp : World → Sp} {x : Str}
    (hn : l.most = some n) (hn2 : n ≤ sizeLine) (hdf : d.params.defaults = []) (hr : Room k callerA)
    (hY : ∀ (w : World) (h : Heap), YP w h → (K w.params).In h)
    (F : ∀ (w : World) (mg : Str → Option Value) (fa : Addr) (h : Heap), (K w.params).In h → h.Ns mainGlobals mg → mg d.name = some (.ref fa) →
      ∃ fd : FuncData, (∀ (s : Shared) (u : Value), BindsTo s fd ⟨[u], []⟩ [(x, u)]) ∧
        ∀ base : Heap, (K w.params).In base → base.Ns mainGlobals mg → FnOk l.prog w (K w.params) mg base (CX w) k fa fd [x] (sp w))
    (hsp : ∀ (w : World) (H : Hp) (a : Addr) (ns : List Int), ns.length ≤ n → (∀ i ∈ ns, Bg i) → Only H → SqL (K w.params) H a (ns.map V.int) → sp w [.ref a] H (fun v _ => v = .bl true) fun _ _ _ => False)
    (hCX : ∀ (w : World) (H : Hp) (s : Shared) (e : Value) (s' : Shared), CX w [] H s (fun _ _ _ => False) e s' → False) :
    PySem.W.WalkO q loose XP YP l.row.toRowW d [] (fun f vs => PySem.call f vs) := by
  refine attachB hn hdf fun w s0 s1 mg mb fa o pm cd doc a vs ns G Y ho hd hcd hmg hobj hints hlen hbg hg => ?_
  have KX := hY w _ Y
  obtain ⟨fd, hb, hF⟩ := F w mg fa _ KX G.T.g hmg
  exact law_call KX G.T.g G.T.b G.T.builtins G.T.nolimit hg hobj hints (Nat.le_trans hlen hn2) hr hF hb (fun H hO hS => hsp w H a ns hlen hbg hO hS) fun H e s' => hCX w H s1 e s'
theorem Inv.big {X : Cx} {pins : List (Addr × Obj)} {σ : St} {H : Hp} {s : Shared} (I : Inv X pins σ H s) : sysModules < s.heap.objs.size := by
  have h : mainGlobals < s.heap.objs.size := (I.mod.glob.keeps I.bk).lt
  exact Nat.lt_trans (by decide) h
theorem Dens.at {H : Hp} {ts : List Th} {xs : List V} {i : Int} (d : Th) (h : Dens H ts xs) (h0 : 0 ≤ i) (h1 : i < (ts.length : Int)) : ∃ v, atI xs i = some v ∧ Den H (ts.getD i.toNat d) v := by
  have hk : i.toNat < ts.length := by omega
  have ek : i = ((i.toNat : Nat) : Int) := by omega
  obtain ⟨v, e, q⟩ := h.get (List.getElem?_eq_getElem hk)
  have z := atI_nat e
  rw [← ek] at z
  refine ⟨v, z, ?_⟩
  rw [getD_in hk]; exact q
end L2
set_option maxHeartbeats 4000000
namespace L2
open PySem PySem.Spec PyProof.Rows
section
variable {prog : Program} {w : World} {A : Around} {E : Value → Shared → Prop}
end
end L2
set_option maxHeartbeats 4000000
namespace L2
open PySem PySem.Spec PySem.W PyProof.Rows Builtin Builtin.ObjectAttr Builtin.Getset_descriptor
structure XInst (K : Frag) (C : Addr) : Prop where
  ga : findIn K (.ref C) "__getattribute__" = some (some (.builtin "BaseException.__getattribute__"))
  gt : findIn K (.ref C) "__getattr__" = some none
  cl : findIn K (.ref C) "__class__" = some (some (.builtin "object.__class__"))
  sg : specialIn K (.builtin "object.__class__") "__get__" = some (some (.builtin "getset_descriptor.__get__"))
  tk : takesIn K (.builtin "object.__class__") = some true
  ob : mroIn K C (.type "object") = some true
  be : mroIn K C (.type "BaseException") = some true
  ok : isClsIn K C = true
section
variable {prog : Program} {w : World} {A : Around} {E : Value → Shared → Prop} {K : Frag} {a C : Addr} {oe : Obj} {h : Heap} {g : Array GenState} {d : Drawn} {t : Nat} {os : OsState}
end
section
variable {X : Cx} {e : Addr} {oe : Obj}
end
end L2
set_option maxHeartbeats 4000000
namespace L2
open PySem PySem.Spec PyProof.Rows
section
variable {X : Cx} {pins : List (Addr × Obj)} {σ : St} {H : Hp} {s : Shared} {h' : Heap}
theorem Inv.turnedL {t' : Nat} {fp : List Addr} (I : Inv X pins σ H s) (k : ∀ b o, b ∉ fp → s.heap.get? b = some o → h'.get? b = some o) (hf : ∀ b ∈ fp, FpOk X pins H b) :
    Inv X pins σ H { s with heap := h', toks := t' } := by
  have nin : ∀ b u, H b = some u → b ∉ fp := fun b u e z => by rw [(hf b z).1] at e; cases e
  refine I.step (g' := s.gens) (d' := s.drawn) (ch := fp) (fun b hb => ⟨(hf b hb).2.2.2.1, (hf b hb).2.1, (hf b hb).2.2.2.2.1, (hf b hb).2.2.2.2.2⟩) (fun b o _ _ hc e _ => k b o hc e) (fun b o _ _ hc e _ => ⟨o.slots, k b o hc e⟩) (fun _ _ _ _ n => n)
    (fun b o hc e => ⟨o, k b o hc e⟩) (fun _ _ e => e) (fun _ _ _ e => e) (fun b ps e => ⟨#[], by rw [e]; simp⟩) (fun m hm => ?_) (fun b u e => ?_) I.bare
  · obtain ⟨o, es, ep, ho, r⟩ := hm
    exact ⟨o, es, ep, k _ o (fun z => (hf _ z).2.1 rfl) ho, r⟩
  · refine (I.hok b u e).stay (fun c v hc q => k c v ?_ q) (fun _ q => q) fun _ _ q => q
    rcases hc with z | z
    · rw [z]; exact nin b u e
    · exact nin c _ z
theorem Inv.turnLay {t' : Nat} {fp : List Addr} {a : Addr} {o : HO} (I : Inv X pins σ H s) (k : ∀ b u, b ∉ fp → s.heap.get? b = some u → h'.get? b = some u) (hf : ∀ b ∈ fp, FpOk X pins H b)
    (ha : s.heap.objs.size ≤ a) (new : ObjOk X.prog X.w (upd H a o) h' a o) : Inv X pins σ (upd H a o) { s with heap := h', toks := t' } := by
  have nin : ∀ b u, H b = some u → b ∉ fp := fun b u e z => by rw [(hf b z).1] at e; cases e
  have hn : H a = none := I.hok.fresh ha
  have ne : ∀ b u, H b = some u → b ≠ a := fun b u e z => by rw [z, hn] at e; cases e
  refine I.step (g' := s.gens) (d' := s.drawn) (ch := fp) (fun b hb => ⟨(hf b hb).2.2.2.1, (hf b hb).2.1, (hf b hb).2.2.2.2.1, (hf b hb).2.2.2.2.2⟩) (fun b o _ _ hc e _ => k b o hc e) (fun b o _ _ hc e _ => ⟨o.slots, k b o hc e⟩)
    (fun b u _ e n => by rw [upd_ne (Nat.ne_of_lt (Nat.lt_of_lt_of_le (Heap.lt_size e) ha))]; exact n)
    (fun b o hc e => ⟨o, k b o hc e⟩) (fun b xs e => by rw [upd_ne (ne b _ e)]; exact e) (fun b o u e => by rw [upd_ne (ne b _ e)]; exact e) (fun b ps e => ⟨#[], by rw [upd_ne (ne b _ e), e]; simp⟩) (fun m hm => ?_) (fun b u e => ?_) I.bare
  · obtain ⟨o, es, ep, ho, r⟩ := hm
    exact ⟨o, es, ep, k _ o (fun z => (hf _ z).2.1 rfl) ho, r⟩
  · by_cases hb : b = a
    · subst hb
      rw [upd_same] at e
      cases e
      exact new
    · rw [upd_ne hb] at e
      refine (I.hok b u e).stay (fun c v hc q => k c v ?_ q) (fun c q => by rw [upd_ne (ne c _ q)]; exact q) fun c xs q => by rw [upd_ne (ne c _ q)]; exact q
      rcases hc with z | z
      · rw [z]; exact nin b u e
      · exact nin c _ z
end
def Itz (K : PySem.W.Frag) (l1 l2 : Addr) : It :=
  ⟨fun i H => ∃ xs ys x y, SqL K H l1 xs ∧ SqL K H l2 ys ∧ xs[i]? = some x ∧ ys[i]? = some y,
   fun i H v H' => ∃ T x y, H T = none ∧ H' = upd H T (.tup [x, y]) ∧ v = .ref T ∧ (∀ xs, SqL K H l1 xs → xs[i]? = some x) ∧ ∀ ys, SqL K H l2 ys → ys[i]? = some y,
   fun i H => ∃ xs ys, SqL K H l1 xs ∧ SqL K H l2 ys ∧ (xs.length ≤ i ∨ ys.length ≤ i)⟩
def ZSt (z TI TO i1 i2 l1 l2 : Addr) (i : Nat) (h : Heap) : Prop :=
  IsZip h z TI TO Value.none ∧ IsPair h TI (.ref i1) (.ref i2) ∧ (∃ a b, IsPair h TO a b) ∧ h.IsListIter i1 l1 i ∧ h.IsListIter i2 l2 i
theorem isList_at {h : Heap} {l : Addr} {items : Array Value} (x : h.IsList l items) : ∃ o, h.get? l = some o ∧ o.cls = .type "list" := by
  obtain ⟨o, e, c, _⟩ := x
  exact ⟨o, e, c⟩
theorem turn_zip {P : Program} {w : World} {K : PySem.W.Frag} {es : List Expr} {k0 : Nat} {p0 : Pos} {z TI TO i1 i2 l1 l2 : Addr} (ap : ZipApart z TI TO i1 i2 l1 l2) :
    Turn P w K (.Tuple es k0 p0) (Itz K l1 l2) [z, TI, TO, i1, i2] z (ZSt z TI TO i1 i2 l1 l2) where
  mem := by simp
  obj := fun i h ⟨a, b, ⟨c1, c2, c⟩, d, e⟩ x hx => by
    simp only [List.mem_cons, List.not_mem_nil, or_false] at hx
    rcases hx with rfl | rfl | rfl | rfl | rfl
    · exact ⟨_, a, fun v q => by cases q⟩
    · exact ⟨_, b, fun v q => by cases q⟩
    · exact ⟨_, c, fun v q => by cases q⟩
    · obtain ⟨o, e1, _, e2⟩ := d
      exact ⟨o, e1, fun v q => by rw [e2] at q; cases q⟩
    · obtain ⟨o, e1, _, e2⟩ := e
      exact ⟨o, e1, fun v q => by rw [e2] at q; cases q⟩
  keep := fun i h h' ⟨a, b, ⟨c1, c2, c⟩, d, e⟩ kk =>
    ⟨kk _ (by simp) _ a, kk _ (by simp) _ b, ⟨c1, c2, kk _ (by simp) _ c⟩, d.at fun o q => kk _ (by simp) o q, e.at fun o q => kk _ (by simp) o q⟩
  item := by
    intro X hP hw hK hc i pins s σ H E I hf st hg
    subst hP hw hK
    obtain ⟨a, b, ⟨c1, c2, c⟩, d, e⟩ := st
    obtain ⟨xs, ys, x, y, q1, q2, x1, y1⟩ := hg
    obtain ⟨its1, rv1, pl1, hz1⟩ := I.list q1
    obtain ⟨its2, rv2, pl2, hz2⟩ := I.list q2
    obtain ⟨u1, hu1, ru1⟩ := rv1.get x1
    obtain ⟨u2, hu2, ru2⟩ := rv2.get y1
    refine wpAny_pyNext_zip_item ap a b c d e pl1.isList pl2.isList (x := u1) (y := u2) (by simpa using hu1) (by simpa using hu2) fun h' za zb zc zd ze zs zk => ?_
    refine ⟨_, rfl, wpAny_letOwnedTupleGo_zip (s := { s with heap := h' }) za fun h2 za2 sb => ?_⟩
    have kk : ∀ b o, b ∉ [z, TI, TO, i1, i2] → s.heap.get? b = some o → h2.get? b = some o := fun b o hb q => by
      simp only [List.mem_cons, List.not_mem_nil, or_false, not_or] at hb
      exact (sb.2 b hb.1).trans (zk b o hb.1 hb.2.2.1 hb.2.2.2.1 hb.2.2.2.2 q)
    have szn : s.heap.objs.size ≠ z := fun q => by
      obtain ⟨f0, _⟩ := hf z (by simp)
      exact absurd (Heap.lt_size a) (by rw [← q]; exact Nat.lt_irrefl _)
    have hT : h2.get? s.heap.objs.size = some { cls := .type "tuple", data := .seq #[u1, u2] } := (sb.2 _ szn).trans ze
    have fr : H s.heap.objs.size = none := I.hok.fresh (Nat.le_refl _)
    have I2 : Inv X pins σ (upd H s.heap.objs.size (.tup [x, y])) { s with heap := h2 } := I.turnLay (t' := s.toks) (fp := [z, TI, TO, i1, i2]) kk hf (Nat.le_refl _)
      ⟨by show 2 ≤ sizeLine; decide, [u1, u2], .cons ru1 (.cons ru2 .nil), ⟨_, hT, rfl, _, rfl⟩⟩
    have kTI : h2.get? TI = some _ := (sb.2 TI ap.TIz).trans (zk TI _ ap.TIz ap.TITO ap.TIi1 ap.TIi2 b)
    refine ⟨.ref s.heap.objs.size, _, I2, rfl, ⟨_, x, y, fr, rfl, rfl, fun zs hz => by rw [I.list_inj hz q1]; exact x1, fun zs hz => by rw [I.list_inj hz q2]; exact y1⟩,
      ⟨za2, kTI, ⟨_, _, (sb.2 TO ap.TOz).trans zb⟩, zc.at fun o q => (sb.2 _ ap.i1z).trans q, zd.at fun o q => (sb.2 _ ap.i2z).trans q⟩, fun b hb => ?_⟩
    have h0 := (hf b hb).1
    have hlt : b ≠ s.heap.objs.size := fun q => by
      subst q
      simp only [List.mem_cons, List.not_mem_nil, or_false] at hb
      rcases hb with q | q | q | q | q
      · exact szn q
      · exact absurd (Heap.lt_size b) (by rw [← q]; exact Nat.lt_irrefl _)
      · exact absurd (Heap.lt_size c) (by rw [← q]; exact Nat.lt_irrefl _)
      · obtain ⟨o, e1, _⟩ := d
        exact absurd (Heap.lt_size e1) (by rw [← q]; exact Nat.lt_irrefl _)
      · obtain ⟨o, e1, _⟩ := e
        exact absurd (Heap.lt_size e1) (by rw [← q]; exact Nat.lt_irrefl _)
    rw [upd_ne hlt]
    exact h0
  done := by
    intro X hP hw hK hc i pins s σ H E I hf st hg
    subst hP hw hK
    obtain ⟨a, b, ⟨c1, c2, c⟩, d, e⟩ := st
    obtain ⟨xs, ys, q1, q2, hl⟩ := hg
    obtain ⟨its1, rv1, pl1, hz1⟩ := I.list q1
    obtain ⟨its2, rv2, pl2, hz2⟩ := I.list q2
    have g1 := rv1.length
    have g2 := rv2.length
    refine wpAny_pyNext_zip_end (I.ok.hd hc) ap a b c d e pl1.isList pl2.isList ?_ fun h' zk => ⟨rfl, I.turnedL (t' := s.toks) (fp := [z, TI, TO, i1, i2]) (fun b o hb q => ?_) hf⟩
    · rcases hl with q | q
      · left; simp; omega
      · right; simp; omega
    · simp only [List.mem_cons, List.not_mem_nil, or_false, not_or] at hb
      exact zk b o hb.1 hb.2.2.1 hb.2.2.2.1 hb.2.2.2.2 q
  self := fun _ _ _ _ _ st h => wpAny_pyIter_zip st.1 h
theorem zapart {n l1 l2 : Nat} (h1 : l1 < n) (h2 : l2 < n) : ZipApart (n + 4) (n + 2) (n + 3) n (n + 1) l1 l2 := by
  constructor <;> (show (_ : Nat) ≠ (_ : Nat); omega)
def iZip (K : PySem.W.Frag) (ta : TA) : TI := fun σ H R => ta σ H fun vs H1 => ∃ a b, vs = [.ref a, .ref b] ∧ (∃ xs, SqL K H1 a xs) ∧ (∃ ys, SqL K H1 b ys) ∧ R (Itz K a b) H1
theorem pi_zip {X : Cx} {es : List Expr} {k0 : Nat} {p0 : Pos} {a b : Expr} {ta : TA} {p pos : Pos} (hg : Gl X "zip") (hm : X.mg "zip" = none) (ha : PA X [a, b] ta) (hs : starEach [a, b] X.env = [(false, eval a X.env), (false, eval b X.env)] := by rfl) (hs2 : starEach [b] X.env = [(false, eval b X.env)] := by rfl) :
    PI X (.Tuple es k0 p0) (.Call (.Name "zip" p) [a, b] [] pos) (iZip X.K ta) := by
  intro pins s σ H R I h
  refine Call_ (ld_blt I hg hm boot_zip (PyProof.Rows.callWith_type1 (thn (ha pos pins s σ H _ I h) fun us s1 ⟨vs, H1, I1, r1, q1⟩ => ?_) (by rw [hs, hs2]) (by rw [hs2]; rfl)))
  obtain ⟨l1, l2, e, ⟨xs, q1⟩, ⟨ys, q2⟩, q⟩ := q1
  subst e
  cases r1 with
  | cons r rr =>
    cases rr with
    | cons r' rr =>
      cases rr
      cases r
      cases r'
      obtain ⟨its1, rv1, pl1, hz1⟩ := I1.list q1
      obtain ⟨its2, rv2, pl2, hz2⟩ := I1.list q2
      have lt1 : l1 < s1.heap.objs.size := by obtain ⟨o, e, _⟩ := isList_at pl1.isList; exact Heap.lt_size e
      have lt2 : l2 < s1.heap.objs.size := by obtain ⟨o, e, _⟩ := isList_at pl2.isList; exact Heap.lt_size e
      refine call_zip_2 pl1.isList pl2.isList fun h' za zb zc zd ze zs zk => ?_
      refine wpAny_pyIter_zip (s := { s1 with heap := h' }) za ?_
      have I2 : Inv X pins σ H1 { s1 with heap := h' } := I1.kept (t' := s1.toks) fun b o e => zk b o e
      refine ⟨_, [_, _, _, _, _], _, _, H1, rfl, I2, turn_zip (z := s1.heap.objs.size + 4) (TI := s1.heap.objs.size + 2) (TO := s1.heap.objs.size + 3) (i1 := s1.heap.objs.size) (i2 := s1.heap.objs.size + 1) (l1 := l1) (l2 := l2) ?_, ⟨za, zb, ⟨_, _, zc⟩, zd, ze⟩, fun b hb => ?_, q⟩
      · exact zapart lt1 lt2
      · simp only [List.mem_cons, List.not_mem_nil, or_false] at hb
        have ge : s1.heap.objs.size ≤ b := by rcases hb with z | z | z | z | z <;> (subst z; first | exact Nat.le_add_right _ _ | exact Nat.le_refl _)
        exact I1.fpOk ge (I1.hok.fresh ge)
end L2
set_option maxHeartbeats 4000000
namespace L2
open PySem PySem.Spec PyProof.Rows
abbrev testsOf (ifs : List Expr) (env : Env) : Sem Bool := forIn ifs true fun c ok => if ok = true then do
      let ok ← PySem.isTrue c env (eval c env)
      pure (ForInStep.yield ok)
    else pure (ForInStep.yield ok)
theorem compTurn_ifs (elt target iter : Expr) (ifs : List Expr) (scope : Scope) (pos : Pos) (it acc : Value) (env : Env) :
  compTurn (elt.ListComp [⟨target, iter, ifs, 0⟩] scope pos) 0 it acc env = (do
    standAt iter.pos
    let r ← pyNext it
    match r with
      | none => pure (Fin.done Flow.next)
      | some v => do
        letOwnedTupleGo target it v
        assign target env v
        let ok ← testsOf ifs env
        if ok = true then do
          let x ← eval elt env
          let _ ← call (Value.builtin "list.append") [acc, x]
          again (Code.compLoop (elt.ListComp [⟨target, iter, ifs, 0⟩] scope pos) 0 it acc env)
        else again (Code.compLoop (elt.ListComp [⟨target, iter, ifs, 0⟩] scope pos) 0 it acc env)) := by
  unfold compTurn
  simp
  rfl
def PIf (X : Cx) (ifs : List Expr) (t : TT) : Prop :=
  ∀ (pins : List (Addr × Obj)) (s : Shared) (σ : St) (H : Hp) (Q : Bool → Hp → Prop), Inv X pins σ H s → t σ H Q → wpAny (model X.prog X.w) X.A (testsOf ifs X.env) (TP X pins σ Q) X.xe s
theorem pif_one {X : Cx} {c : Expr} {t : TT} (hc : PT X c t) : PIf X [c] t := fun pins s σ H Q I h => by
  have e : testsOf [c] X.env = PySem.isTrue c X.env (eval c X.env) := by simp [testsOf]
  rw [e]
  exact hc pins s σ H Q I h
theorem compLoop_ifs {prog : Program} {w : World} {A : Around} {R : Result → Shared → Prop} {s : Shared} {elt tg iter : Expr} {ifs : List Expr} {scope : Scope} {pos : Pos} {it acc : Value} {env : Env} (Iv : Nat → Shared → Prop)
    (turn : ∀ k s, Iv k s → wpAny (model prog w) A (pyNext it) (fun r s1 => match r with
      | none => R (.ok .next) s1
      | some v => wpAny (model prog w) A (letOwnedTupleGo tg it v) (fun _ s2 => wpAny (model prog w) A (assign tg env v) (fun _ s3 => wpAny (model prog w) A (testsOf ifs env) (fun b s4 => if b = true then
          wpAny (model prog w) A (eval elt env) (fun y s5 => wpAny (model prog w) A (call (.builtin "list.append") [acc, y]) (fun _ s6 => ∃ m, m < k ∧ Iv m s6) (fun _ _ => False) s5) (fun _ _ => False) s4
          else ∃ m, m < k ∧ Iv m s4) (fun _ _ => False) s3) (fun _ _ => False) s2) (fun _ _ => False) s1) (fun _ _ => False) s)
    (k : Nat) (h : Iv k s) : codeAny (model prog w) A (.compLoop (.ListComp elt [⟨tg, iter, ifs, 0⟩] scope pos) 0 it acc env) R s := by
  refine codeAny_loop rfl Iv (fun k s hI => ?_) k h
  show wpAny _ _ ((compTurn (.ListComp elt [⟨tg, iter, ifs, 0⟩] scope pos) 0 it acc env).onRaise (fun e => do noteFrame e env; theTreesLotGoes e)) _ _ s
  refine wpAny_noted ?_
  rw [compTurn_ifs]
  refine wpAny_bind (wpAny_standAt (wpAny_bind (wpAny_mono (turn k s hI) (fun r s1 h1 => ?_) fun _ _ f => f.elim)))
  cases r with
  | none => exact wpAny_pure h1
  | some v =>
    refine wpAny_bind (wpAny_mono h1 (fun _ s2 h2 => wpAny_bind (wpAny_mono h2 (fun _ s3 h3 => wpAny_bind (wpAny_mono h3 (fun b s4 h4 => ?_) fun _ _ f => f.elim)) fun _ _ f => f.elim)) fun _ _ f => f.elim)
    cases b with
    | true =>
      rw [if_pos rfl] at h4 ⊢
      exact wpAny_bind (wpAny_mono h4 (fun y s5 h5 => wpAny_bind (wpAny_mono h5 (fun _ s6 h6 => wpAny_pure ⟨rfl, h6⟩) fun _ _ f => f.elim)) fun _ _ f => f.elim)
    | false =>
      rw [if_neg Bool.false_ne_true] at h4 ⊢
      exact wpAny_pure ⟨rfl, h4⟩
structure CompOkL (X : Cx) (xs : List Str) (ts : List (Str × Nat)) (scope : Scope) (cl : List (Str × Addr)) : Prop where
  clos : closureFor scope X.env = pure cl
  sub : ∀ y c, cl.lookup y = some c → X.env.cells.lookup y = some c
  nocell : (scope.names.all fun p => p.2 != .cell) = true
  kind : scope.kind = .function
  locs : (scope.names.all fun p => p.2 != .local || scope.names.lookup p.1 == some .local) = true
  nd : (xs ++ ts.map (·.1)).Nodup
  around : (ts.all fun p => decide (X.N[p.2]? = some p.1) && (X.env.kindOf p.1 == some .cell || X.env.kindOf p.1 == some .free) && (cl.lookup p.1).isSome &&
    ((relabel scope X.env).names.lookup p.1 == some .cell || (relabel scope X.env).names.lookup p.1 == some .free)) = true
  has : ((relabel scope X.env).names.all fun p => !(p.2 == .cell || p.2 == .free) || (cl.lookup p.1).isSome) = true
abbrev nmsL (xs : List Str) (ts : List (Str × Nat)) : List Str := xs ++ ts.map (·.1)
def CompG (J : It) (g : TG) (tt : TT) (te : TE) (k : Nat) (st : St) (D : Addr) (H1 : Hp) (Q : VK) : Prop :=
  ∃ W : Nat → Nat → List V → Hp → Prop, (∃ m, W 0 m [] (upd H1 D (.lst []))) ∧ ∀ i m ys H2, W i m ys H2 →
    (J.stop i H2 ∧ Q (.ref D) H2) ∨ (J.go i H2 ∧ ∀ x H3 σ0, J.yld i H2 x H3 → σ0.length = k → g x (σ0 ++ st) H3 fun σ2 H4 => (∃ σ1, σ1.length = k ∧ σ2 = σ1 ++ st) ∧ tt σ2 H4 fun b H5 =>
      if b = true then te σ2 H5 fun y H6 => H6 D = some (.lst ys) ∧ ys.length < sizeLine ∧ ∃ m', m' < m ∧ W (i + 1) m' (ys ++ [y]) (upd H6 D (.lst (ys ++ [y])))
      else ∃ m', m' < m ∧ W (i + 1) m' ys H5)
def tCompG (wi : TI) (g : TG) (tt : TT) (k : Nat) (fr : List Nat) (te : TE) : TE := fun σ H Q => wi σ H fun J H1 => ∀ D, H1 D = none → CompG J g tt te k (taken σ fr) D H1 Q
section
variable {X : Cx} {elt iter tg : Expr} {ifs : List Expr} {xs : List Str} {pos : Pos} {scope : Scope} {cl : List (Str × Addr)} {ts : List (Str × Nat)} {wi : TI} {te : TE} {g : TG} {tt : TT}
theorem CompOkL.nocell' (O : CompOkL X xs ts scope cl) : ∀ y ∈ scope.names, y.2 ≠ .cell := fun y hy e => by
  have := List.all_eq_true.mp O.nocell y hy
  rw [e] at this
  cases this
theorem CompOkL.locs' (O : CompOkL X xs ts scope cl) : ∀ y ∈ scope.names, y.2 = .local → scope.names.lookup y.1 = some .local := fun y hy e => by
  have h := List.all_eq_true.mp O.locs y hy
  rw [e] at h
  rcases Bool.or_eq_true_iff.mp h with z | z
  · cases z
  · exact beq_iff_eq.mp z
theorem CompOkL.from' (O : CompOkL X xs ts scope cl) : ∀ (i : Nat) (y : Str), (ts.map (·.1))[i]? = some y → ∃ j, (sltOf ts)[i]? = some j ∧ X.N[j]? = some y ∧ (X.env.kindOf y = some .cell ∨ X.env.kindOf y = some .free) ∧ (cl.lookup y).isSome = true ∧
    ((relabel scope X.env).names.lookup y = some .cell ∨ (relabel scope X.env).names.lookup y = some .free) := fun i y e1 => by
  rw [List.getElem?_map] at e1
  cases q : ts[i]? with
  | none => rw [q] at e1; cases e1
  | some p =>
    rw [q] at e1
    have e2 : p.1 = y := Option.some.inj e1
    subst e2
    have h := List.all_eq_true.mp O.around p (List.mem_of_getElem? q)
    simp only [Bool.and_eq_true, Bool.or_eq_true, beq_iff_eq, decide_eq_true_eq] at h
    obtain ⟨⟨⟨h1, h2⟩, h3⟩, h4⟩ := h
    refine ⟨p.2, ?_, h1, h2, h3, h4⟩
    show (ts.map (·.2))[i]? = some p.2
    rw [List.getElem?_map, q] <;> rfl
theorem CompOkL.has' (O : CompOkL X xs ts scope cl) : ∀ y, ((relabel scope X.env).names.lookup y = some .cell ∨ (relabel scope X.env).names.lookup y = some .free) → (cl.lookup y).isSome = true := fun y h => by
  have go : ∀ k : NameKind, (k = .cell ∨ k = .free) → (relabel scope X.env).names.lookup y = some k → (cl.lookup y).isSome = true := fun k hk e => by
    have z := List.all_eq_true.mp O.has (y, k) (PySem.mem_of_lookup e)
    rcases Bool.or_eq_true_iff.mp z with z | z
    · rcases hk with e | e <;> (rw [e] at z; cases z)
    · exact z
  rcases h with h | h
  · exact go _ (.inl rfl) h
  · exact go _ (.inr rfl) h
theorem compL_ok {pins : List (Addr × Obj)} {σ : St} {H3 : Hp} {s3 : Shared} {fp : List Addr} (O : CompOkL X xs ts scope cl) (I3 : Inv X pins σ H3 s3) (hfp : ∀ b ∈ fp, FpOk X pins H3 b ∧ b < s3.heap.objs.size) :
    (cxComp X (nmsL xs ts) scope cl s3.heap.objs.size s3 H3 fp).Ok where
  mod := I3.ok.mod
  kind := O.kind
  glob := I3.ok.glob
  blt := I3.ok.blt
  above := Nat.le_refl _
  inj := fun y z c h1 h2 => I3.ok.inj y z c (O.sub y c h1) (O.sub z c h2)
  has := fun y h => Option.isSome_iff_exists.mp (O.has' y h)
  cab := fun y c h => by cases h
  hd := I3.ok.hd
  frames := I3.ok.frames
  stk := .inl rfl
  exf := fun b hb => ⟨Nat.ne_of_lt (hfp b hb).2, fun y c e => (hfp b hb).1.2.2.2.2.1 y c (O.sub y c e)⟩
  bs := fun b o e => I3.bs b o e
  bsz := Nat.le_trans I3.ok.bsz I3.sz
  noex := fun b o e hb => by
    rcases (hfp b hb).1.2.2.2.1 with z | z
    · exact I3.ok.noex b o e z
    · exact absurd (Nat.lt_of_lt_of_le (Heap.lt_size (I3.ok.bs b o e).1) z) (Nat.lt_irrefl _)
  exfs := fun b hb hz => by
    rcases List.mem_cons.mp (I3.stkSub b hz) with e | e
    · exact (hfp b hb).1.2.1 e
    · exact (hfp b hb).1.2.2.1 e
  funs := I3.stack
  frf := I3.stkFree
theorem compL_start {pins : List (Addr × Obj)} {σ : St} {H3 : Hp} {s3 : Shared} {fp : List Addr} {h1 : Heap} {tk : Nat} (O : CompOkL X xs ts scope cl) (I3 : Inv X pins σ H3 s3) (hfp : ∀ b ∈ fp, FpOk X pins H3 b ∧ b < s3.heap.objs.size)
    (hns : h1.Ns s3.heap.objs.size fun _ => none) (old : ∀ b o, s3.heap.get? b = some o → h1.get? b = some o) :
    Inv (cxComp X (nmsL xs ts) scope cl s3.heap.objs.size s3 H3 fp) [] (List.replicate xs.length none ++ taken σ (sltOf ts)) H3 { s3 with heap := h1, toks := tk } := by
  refine ⟨compL_ok O I3 hfp, rfl, I3.bare, Un.kept old, ⟨_, hns, fun i y v e1 e2 e3 => ?_⟩, fun y c e => ?_, I3.hok.fresh (Nat.le_refl _), fun y c e => I3.freeC y c (O.sub y c e), fun p hp => absurd (show p ∈ ([] : List (Addr × Obj)) from hp) (by simp), I3.hok.kept old, ?_⟩
  · by_cases hi : i < xs.length
    · rw [List.getElem?_append_left (by simpa using hi), List.getElem?_replicate, if_pos hi] at e2
      cases e2
    · have hi' : xs.length ≤ i := Nat.le_of_not_lt hi
      have e1' : (ts.map (·.1))[i - xs.length]? = some y := by
        have : (xs ++ ts.map (·.1))[i]? = some y := e1
        rw [List.getElem?_append_right hi'] at this; exact this
      rw [List.getElem?_append_right (by simpa using hi')] at e2
      rw [List.length_replicate] at e2
      obtain ⟨j, hj, hN, hk, hcl, hk2⟩ := O.from' _ y e1'
      have e2' : σ[j]? = some (some v) := by
        have q := e2
        unfold taken at q
        rw [List.getElem?_map, hj] at q
        have q' : (σ[j]?).getD none = some v := Option.some.inj q
        cases z : σ[j]? with
        | none => rw [z] at q'; cases q'
        | some w => rw [z] at q'; rw [show w = some v from q']
      obtain ⟨m, hn, hl⟩ := I3.loc
      have vis : Vis X.env.scope y := hk.elim (fun z => .inr (.inl z)) fun z => .inr (.inr z)
      obtain ⟨u, r, l⟩ := hl j y v hN e2' vis
      obtain ⟨c, hc⟩ := Option.isSome_iff_exists.mp hcl
      refine ⟨u, r, .inr ⟨hk2, c, hc, ?_⟩⟩
      rcases l with ⟨k, _⟩ | ⟨_, c', hc', z⟩
      · rcases hk with hk | hk
        · rw [k] at hk; cases hk
        · rw [k] at hk; cases hk
      · rw [O.sub y c hc] at hc'
        cases hc'
        obtain ⟨o, ho, hd⟩ := z
        exact ⟨o, old c o ho, hd⟩
  · obtain ⟨v, o, ho, hd⟩ := I3.cell y c (O.sub y c e)
    exact ⟨v, o, old c o ho, hd⟩
  · show (List.replicate xs.length none ++ taken σ (sltOf ts)).length = (nmsL xs ts).length
    simp [taken]
theorem compG_run {use : Option (Value → Sem Unit)} {QV : Value → Shared → Prop} {cpos : Pos} {pins : List (Addr × Obj)} {s : Shared} {σ : St} {H : Hp} {Q : VK} (hc : X.calm = true) (O : CompOkL X xs ts scope cl) (hi : PI X tg iter wi) (hg : ∀ C s3 H3 fp, PG (cxComp X (nmsL xs ts) scope cl C s3 H3 fp) tg g)
    (ht : ∀ C s3 H3 fp, PIf (cxComp X (nmsL xs ts) scope cl C s3 H3 fp) ifs tt) (he : ∀ C s3 H3 fp, PE (cxComp X (nmsL xs ts) scope cl C s3 H3 fp) elt te)
    (hs : ∀ x, foldedSetIterable iter X.env x = pure x) (I : Inv X pins σ H s) (h : tCompG wi g tt xs.length (sltOf ts) te σ H Q)
    (fin : ∀ (D C : Addr) (s6 : Shared) (H5 : Hp), Inv X pins σ H5 s6 → FpOk X pins H5 C → (∃ m, s6.heap.Ns C m) → Q (.ref D) H5 → compPost (model X.prog X.w) X.A X.xe use QV (.ref D) C (.ok .next) s6) :
    wpAny (model X.prog X.w) X.A (comprehension (.ListComp elt [⟨tg, iter, ifs, 0⟩] scope pos) scope X.env cpos (newList []) false (eval iter X.env) use) QV X.xe s := by
  refine wpAny_comprehension_free (use := use) rfl hs O.clos O.kind O.locs' (thn (hi pins s σ H _ I h) fun v s1 h1 => thn h1 fun itv s2 h2 => ?_)
  obtain ⟨it, fp, tn, J, H2, rfl, I2, T, st2, f2, q⟩ := h2
  have hD : H2 s2.heap.objs.size = none := I2.hok.fresh (Nat.le_refl _)
  obtain ⟨W, ⟨m0, w0⟩, turn⟩ := q s2.heap.objs.size hD
  refine wpAny_newObj_type ?_
  have I3 : Inv X pins σ (upd H2 s2.heap.objs.size (.lst [])) { s2 with heap := s2.heap.push { cls := .type "list", dict := none, data := .seq ([] : List Value).toArray } } :=
    I2.laid (a := s2.heap.objs.size) (o := .lst []) (t' := s2.toks) (fun b u e => Heap.get?_push_of_some _ e) (Nat.le_refl _) ⟨Nat.zero_le _, [], 0, .nil, Heap.get?_push_size _ rfl⟩
  generalize hs3 : ({ s2 with heap := s2.heap.push { cls := .type "list", dict := none, data := .seq ([] : List Value).toArray } } : Shared) = s3 at I3
  have sz3 : s3.heap.objs.size = s2.heap.objs.size + 1 := by rw [← hs3, Heap.size_push]
  have old3 : ∀ b u, s2.heap.get? b = some u → s3.heap.get? b = some u := fun b u e => by rw [← hs3]; exact Heap.get?_push_of_some _ e
  generalize hH3 : upd H2 s2.heap.objs.size (.lst []) = H3 at I3 w0
  have fp2 : ∀ b ∈ fp, b < s2.heap.objs.size := fun b hb => by
    obtain ⟨o, e, _⟩ := T.obj _ _ st2 b hb
    exact Heap.lt_size e
  have hfp : ∀ b ∈ fp, FpOk X pins H3 b ∧ b < s3.heap.objs.size := fun b hb => by
    refine ⟨⟨?_, (f2 b hb).2⟩, by rw [sz3]; exact Nat.lt_succ_of_lt (fp2 b hb)⟩
    rw [← hH3, upd_ne (Nat.ne_of_lt (fp2 b hb))]
    exact (f2 b hb).1
  refine wpAny_newFunctionEnv O.nocell' (by intro y hy; simp at hy) (fun h₁ hns₁ hsb₁ => ?_) O.kind
  have old : ∀ b o, s3.heap.get? b = some o → h₁.get? b = some o := fun b o e => hsb₁.extBut b o (Nat.ne_of_lt (Heap.lt_size e)) (Heap.get?_push_of_some _ e)
  have start : Inv (cxComp X (nmsL xs ts) scope cl s3.heap.objs.size s3 H3 fp) [] (List.replicate xs.length none ++ taken σ (sltOf ts)) H3 { s3 with heap := h₁, toks := s3.toks + 0 } := compL_start O I3 hfp hns₁ old
  have st4 : tn 0 h₁ := T.keep _ _ _ st2 fun b hb o e => old b o (old3 b o e)
  have okX : ∀ {H' : Hp}, (∀ b ∈ fp, H' b = none) → ∀ b ∈ fp, FpOk (cxComp X (nmsL xs ts) scope cl s3.heap.objs.size s3 H3 fp) [] H' b := fun hn b hb => by
    refine ⟨hn b hb, Nat.ne_of_lt (hfp b hb).2, fun z => ?_, .inl hb, fun y c e => (f2 b hb).2.2.2.2.1 y c (O.sub y c e), fun p hp => absurd (show p ∈ ([] : List (Addr × Obj)) from hp) (by simp)⟩
    rcases List.mem_cons.mp (I3.stkSub b z) with e | e
    · exact (f2 b hb).2.1 e
    · exact (f2 b hb).2.2.1 e
  have loop : ∀ s₄ : Shared, s₄ = { s3 with heap := h₁, toks := s3.toks + 0 } →
      codeAny (model X.prog X.w) X.A (.compLoop (.ListComp elt [⟨tg, iter, ifs, 0⟩] scope pos) 0 (.ref it) (.ref s2.heap.objs.size) (compEnvC scope cl s3.heap.objs.size X.env))
        (compPost (model X.prog X.w) X.A X.xe use QV (.ref s2.heap.objs.size) s3.heap.objs.size) s₄ := by
    rintro s₄ rfl
    refine compLoop_ifs (fun n s' => ∃ i ys σ0 H', σ0.length = xs.length ∧ Inv (cxComp X (nmsL xs ts) scope cl s3.heap.objs.size s3 H3 fp) [] (σ0 ++ taken σ (sltOf ts)) H' s' ∧ tn i s'.heap ∧ (∀ b ∈ fp, H' b = none) ∧ W i n ys H') ?_ m0
      ⟨0, [], _, H3, by simp, start, st4, fun b hb => (hfp b hb).1.1, w0⟩
    rintro n s5 ⟨i, ys, σ0, H5, l0, I5, st5, fr5, w5⟩
    rcases turn i n ys H5 w5 with ⟨stop, qn⟩ | ⟨go, step⟩
    · refine thn (T.done (cxComp X (nmsL xs ts) scope cl s3.heap.objs.size s3 H3 fp) rfl rfl rfl hc i [] s5 (σ0 ++ taken σ (sltOf ts)) H5 _ I5 (okX fr5) st5 stop) fun r s6 ⟨hr, I6⟩ => ?_
      subst hr
      obtain ⟨m, hn, _⟩ := id I6.loc
      have u6 : Un (frs X.stack) fp H3 H5 s3.heap s6.heap := I6.base
      have fC : H5 s3.heap.objs.size = none := I6.free
      exact fin s2.heap.objs.size s3.heap.objs.size s6 H5 (I3.call' (s' := s6) (ch := fp) I6.os u6 I6.hok I6.bare (fun b hb => ⟨(f2 b hb).2.2.2.1, (f2 b hb).2.1, (f2 b hb).2.2.2.2.1, (f2 b hb).2.2.2.2.2⟩))
        (I3.fpOk (Nat.le_refl _) fC) ⟨m, hn⟩ qn
    · refine thn (T.item (cxComp X (nmsL xs ts) scope cl s3.heap.objs.size s3 H3 fp) rfl rfl rfl hc i [] s5 (σ0 ++ taken σ (sltOf ts)) H5 _ I5 (okX fr5) st5 go) fun r s6 ⟨u, hr, h6⟩ => ?_
      subst hr
      refine thn h6 fun _ s7 ⟨z, H7, I7, rz, yz, st7, fr7⟩ => ?_
      have I7' := I7.pinned (okX fr7) (T.obj _ _ st7)
      refine thn (hg s3.heap.objs.size s3 H3 fp _ s7 _ H7 z u _ I7' rz (step z H7 σ0 yz l0)) fun _ s8 ⟨σ8, H8, I8, ⟨σ1, l1, e8⟩, q8⟩ => ?_
      subst e8
      refine thn (ht s3.heap.objs.size s3 H3 fp _ s8 _ H8 _ I8 q8) fun b s9 ⟨H9, I9, q9⟩ => ?_
      cases b with
      | true =>
        rw [if_pos rfl] at q9 ⊢
        refine thn (he s3.heap.objs.size s3 H3 fp _ s9 _ H9 _ I9 q9) fun y s10 ⟨vy, H10, I10, ry, hD9, hl9, m', hm', w9⟩ => ?_
        refine thn (mt_append (X := cxComp X (nmsL xs ts) scope cl s3.heap.objs.size s3 H3 fp) _ s10 _ H10 (.ref s2.heap.objs.size) [vy] (.ref s2.heap.objs.size) [y] (fun _ H11 => H11 = upd H10 s2.heap.objs.size (.lst (ys ++ [vy]))) I10 rfl (.cons ry .nil) ⟨_, ys, vy, rfl, rfl, hD9, hl9, rfl⟩) fun _ s11 ⟨_, H11, I11, _, e11⟩ => ?_
        subst e11
        refine ⟨m', hm', i + 1, ys ++ [vy], σ1, _, l1, I11.unpinned, T.keep _ _ _ st7 fun b hb o e => (I11.pin (b, o) (List.mem_append_right _ (List.mem_append_right _ (mem_pinsAt hb e)))).1, fun b hb => ?_, w9⟩
        obtain ⟨o, e, d⟩ := T.obj _ _ st7 b hb
        exact (I11.pin (b, o) (List.mem_append_right _ (List.mem_append_right _ (mem_pinsAt hb e)))).2.1
      | false =>
        rw [if_neg Bool.false_ne_true] at q9 ⊢
        obtain ⟨m', hm', w9⟩ := q9
        refine ⟨m', hm', i + 1, ys, σ1, _, l1, I9.unpinned, T.keep _ _ _ st7 fun b hb o e => (I9.pin (b, o) (List.mem_append_right _ (List.mem_append_right _ (mem_pinsAt hb e)))).1, fun b hb => ?_, w9⟩
        obtain ⟨o, e, d⟩ := T.obj _ _ st7 b hb
        exact (I9.pin (b, o) (List.mem_append_right _ (List.mem_append_right _ (mem_pinsAt hb e)))).2.1
  have hst := codeAny_compStart_list (loop _ rfl) (T.self X.A 0 _ _ _ st4 (loop _ rfl))
  exact hst
theorem pe_compG (hc : X.calm = true) (O : CompOkL X xs ts scope cl) (hi : PI X tg iter wi) (hg : ∀ C s3 H3 fp, PG (cxComp X (nmsL xs ts) scope cl C s3 H3 fp) tg g)
    (ht : ∀ C s3 H3 fp, PIf (cxComp X (nmsL xs ts) scope cl C s3 H3 fp) ifs tt) (he : ∀ C s3 H3 fp, PE (cxComp X (nmsL xs ts) scope cl C s3 H3 fp) elt te)
    (hs : ∀ x, foldedSetIterable iter X.env x = pure x := by intro _; rfl) : PE X (.ListComp elt [⟨tg, iter, ifs, 0⟩] scope pos) (tCompG wi g tt xs.length (sltOf ts) te) := by
  intro pins s σ H Q I h
  rw [eval_ListComp]
  refine compG_run (use := none) hc O hi hg ht he hs I h fun D C s6 H5 I6 fC ⟨m, hn⟩ q => ?_
  refine ⟨m, hn, fun h' sb => ⟨.ref D, H5, ?_, rfl, q⟩⟩
  exact I6.turned (it := C) (t' := s6.toks) (fun b o hb e => (sb.2 b hb).trans e) fC.1 fC.2.1 fC.2.2.2.1 fC.2.2.2.2.1 fC.2.2.2.2.2
end
theorem pg_tupC {X : Cx} {N' : List Str} {scope : Scope} {cl : List (Str × Addr)} {C : Addr} {s3 : Shared} {H3 : Hp} {fp : List Addr} {pos : Pos} {es : List Expr} {k : Nat} {t : TGs} {n : Nat} (hc : X.calm = true) (h : PGs (cxComp X N' scope cl C s3 H3 fp) es t)
    (hn : (assignEach es (cxComp X N' scope cl C s3 H3 fp).env).length = n := by rfl) (hst : (assignEach es (cxComp X N' scope cl C s3 H3 fp).env).findIdx? (·.1) = none := by rfl) : PG (cxComp X N' scope cl C s3 H3 fp) (.Tuple es k pos) (gTup X.K n t) := pg_tup hc h hn hst
theorem sub0 {cs : List (Str × Addr)} : ∀ (y : Str) (c : Addr), List.lookup y ([] : List (Str × Addr)) = some c → cs.lookup y = some c := fun _ _ h => by cases h
end L2
set_option maxHeartbeats 4000000
namespace L2
open PySem PySem.Spec PyProof.Rows
section
variable {X : Cx}
def rInsert : V → List V → Hp → VK → Prop := fun x vs H Q => ∃ (l : Addr) (xs : List V) (i : Int) (y : V), x = .ref l ∧ vs = [.int i, y] ∧ H l = some (.lst xs) ∧ 0 ≤ i ∧ i.toNat ≤ xs.length ∧ xs.length < sizeLine ∧ Q .non (upd H l (.lst (xs.take i.toNat ++ y :: xs.drop i.toNat)))
theorem ins_meets (l : Addr) (items : Array Value) (n : Nat) (x : Int) (u : Tok) (y : Value) (h0 : 0 ≤ x) (h : x < 2 ^ 63) (hs : items.size ≤ sizeLine) : Meets (Builtin.«list.insert» { pos := [Value.ref l, Value.int x u, y] }) fun x_1 R s =>
        s.heap.get? l = some { cls := Value.type "list", data := Data.seq items n } ∧
          R (Except.ok (Flow.ret Value.none)) { s with heap := s.heap.update l (Obj.mapSeq fun xs => (xs.extract 0 (min x.toNat xs.size)).push y ++ xs.extract (min x.toNat xs.size)) } := by
  have hfit : ¬(!Builtin.List.listFitsIndex x) = true := by
    have : Builtin.List.listFitsIndex x = true := by
      unfold Builtin.List.listFitsIndex
      simp
      omega
    rw [this]; exact fun z => nomatch z
  have M := AutoSeq1.list_insert_list_int_val_1 l items n x u y hfit hs
  simp only [if_neg (show ¬ x < 0 by omega)] at M
  exact M
theorem mt_insert : MtM X "list.insert" rInsert := by
  intro pins s σ H x vs v us Q I rx rv h
  obtain ⟨l, xs, i, y, rfl, rfl, hH, h0, hi, hz, q⟩ := h
  cases rx
  cases rv with
  | cons r1 rr =>
    obtain ⟨t, rfl⟩ := r1
    obtain ⟨u, rfl, ru⟩ := Vals.one rr
    obtain ⟨z, its, n, r, hl, e⟩ := I.lstM hH
    have hsz : its.toArray.size ≤ sizeLine := by rw [List.size_toArray]; omega
    have hb : i < 2 ^ 63 := by
      have : sizeLine = 2 ^ 24 := rfl
      omega
    refine call_meets F.slot_list_insert ⟨_, e, rfl⟩ F.entry_list_insert (F.args_list_insert_3 (.ref l) (.int i t) u) (ins_meets l its.toArray n i t u h0 hb hsz) ⟨e, ?_⟩
    refine ⟨.non, _, I.lset (its' := its.take i.toNat ++ u :: its.drop i.toNat) hH e ?_ ((r.take _).append (.cons ru (r.drop _))) ?_, rfl, q⟩
    · have g : min i.toNat its.length = i.toNat := by omega
      simp [g]
      exact List.take_of_length_le (by simp)
    · simp; omega
end
end L2
set_option maxHeartbeats 4000000
namespace L2
open PySem PySem.Spec PyProof.Rows
section
variable {X : Cx}
def Smk (i : Int) : Prop := i.natAbs < 2 ^ 8900
theorem Smk.bits {i : Int} (h : Smk i) : Builtin.Int.intBits i ≤ 8900 := intBits_le_iff.mpr h
theorem mulOk_smk {i j : Int} (hi : Smk i) (hj : Smk j) : IntMulOk i j := by
  have h1 := hi.bits
  have h2 := hj.bits
  unfold IntMulOk Builtin.Int.intTooBig
  intro h
  have h4 := of_decide_eq_true (Bool.and_eq_true_iff.mp h).2
  rw [bitsLine_eq] at h4
  omega
theorem noPy_smk {i j : Int} (hj : Smk j) : Builtin.divisionGoesByPylong i j = false := by
  refine PyProof.noPylong_of_log2 ?_
  by_cases h0 : j.natAbs = 0
  · rw [h0]; decide +kernel
  · have h : j.natAbs.log2 < 8900 := (Nat.log2_lt h0).mpr hj
    omega
theorem op_mulK : OpR X (binaryOp .Mult) (rI (fun i j => Smk i ∧ Smk j) fun i j => .int (i * j)) := opI fun _ _ _ _ _ _ _ hc q => mul_int q (mulOk_smk hc.1 hc.2)
theorem op_fdivK : OpR X (binaryOp .FloorDiv) (rI (fun _ j => j ≠ 0 ∧ Smk j) fun i j => .int (i.fdiv j)) := opI fun _ _ _ _ _ _ _ hc q => floordiv_int hc.1 q (.inl (noPy_smk hc.2))
end
section
variable {X : Cx} {N' : List Str} {scope : Scope} {cl : List (Str × Addr)} {C : Addr} {s3 : Shared} {H3 : Hp} {fp : List Addr}
end
theorem Rd.same {H H' : Hp} {a : Addr} {u : HO} (e : Same H H') (h : Rd H a u) : Rd H' a u := by
  rcases h with h | ⟨o, h⟩
  · exact .inl (e a _ h)
  · exact .inr ⟨o, e a _ h⟩
theorem Same.tup {K : PySem.W.Frag} {H H' : Hp} {a : Addr} {xs : List V} (e : Same H H') (h : SqT K H a xs) : SqT K H' a xs := by
  rcases h with h | h
  · exact .inl (h.same e)
  · exact .inr h
theorem same_upd {H1 H2 : Hp} {D : Addr} {o : HO} (h : Same H1 H2) (hD : H1 D = none) : Same H1 (upd H2 D o) := fun b u e => by
  rw [upd_ne (ne_of_none e hD)]; exact h b u e
end L2
set_option maxHeartbeats 4000000
namespace L2
open PySem PySem.Spec PyProof.Rows
mutual
def eqTh : Th → Th → Bool
  | .int i, .int j => i == j
  | .str x, .str y => x == y
  | .non, .non => true
  | .tup ts, .tup us => eqThs ts us
  | .lst ts, .lst us => eqThs ts us
  | _, _ => false
def eqThs : List Th → List Th → Bool
  | [], [] => true
  | t :: ts, u :: us => eqTh t u && eqThs ts us
  | _, _ => false
end
mutual
def cmpTh : Th → Th → Bool
  | .int _, .int _ => true
  | .str _, .str _ => true
  | .non, .non => true
  | .tup ts, .tup us => cmpThs ts us
  | .lst ts, .lst us => cmpThs ts us && ts.length == us.length
  | _, _ => false
def cmpThs : List Th → List Th → Bool
  | t :: ts, u :: us => cmpTh t u && cmpThs ts us
  | _, _ => true
end
theorem cmpThs_at : ∀ {ts us : List Th} {j : Nat} {t u : Th}, cmpThs ts us = true → ts[j]? = some t → us[j]? = some u → cmpTh t u = true
  | t0 :: ts, u0 :: us, 0, t, u, h, e1, e2 => by
    rw [List.getElem?_cons_zero] at e1 e2
    cases e1; cases e2
    simp only [cmpThs, Bool.and_eq_true] at h
    exact h.1
  | t0 :: ts, u0 :: us, j + 1, t, u, h, e1, e2 => by
    rw [List.getElem?_cons_succ] at e1 e2
    simp only [cmpThs, Bool.and_eq_true] at h
    exact cmpThs_at h.2 e1 e2
def eqAtJ (ts us : List Th) (j : Nat) : Bool := match ts[j]?, us[j]? with
  | some t, some u => eqTh t u
  | _, _ => true
theorem eqThs_all : ∀ (ts us : List Th), ((List.range (min ts.length us.length)).all (eqAtJ ts us) && ts.length == us.length) = eqThs ts us
  | [], [] => by simp [eqThs]
  | [], u :: us => by simp [eqThs]
  | t :: ts, [] => by simp [eqThs]
  | t :: ts, u :: us => by
    have ih := eqThs_all ts us
    have e1 : min (t :: ts).length (u :: us).length = min ts.length us.length + 1 := by simp only [List.length_cons]; omega
    have e2 : ((t :: ts).length == (u :: us).length) = (ts.length == us.length) := by
      simp only [List.length_cons]
      cases h : ts.length == us.length
      · have : ts.length ≠ us.length := by simpa using h
        simp; omega
      · have : ts.length = us.length := by simpa using h
        simp [this]
    rw [e1, e2, List.range_succ_eq_map, List.all_cons, List.all_map]
    have e3 : eqAtJ (t :: ts) (u :: us) 0 = eqTh t u := by simp [eqAtJ]
    have e4 : (eqAtJ (t :: ts) (u :: us) ∘ Nat.succ) = eqAtJ ts us := by
      funext j
      simp [eqAtJ, Function.comp]
    rw [e3, e4, eqThs, ← ih, Bool.and_assoc]
mutual
theorem eqTh_refl : ∀ {t : Th}, cmpTh t t = true → eqTh t t = true
  | .int i, _ => by simp [eqTh]
  | .str x, _ => by simp [eqTh]
  | .non, _ => by simp [eqTh]
  | .tup ts, h => by rw [cmpTh] at h; rw [eqTh]; exact eqThs_refl h
  | .lst ts, h => by rw [cmpTh, Bool.and_eq_true] at h; rw [eqTh]; exact eqThs_refl h.1
  | .bl b, h => by simp [cmpTh] at h
  | .emp, h => by simp [cmpTh] at h
theorem eqThs_refl : ∀ {ts : List Th}, cmpThs ts ts = true → eqThs ts ts = true
  | [], _ => by simp [eqThs]
  | t :: ts, h => by
    rw [cmpThs, Bool.and_eq_true] at h
    rw [eqThs, Bool.and_eq_true]
    exact ⟨eqTh_refl h.1, eqThs_refl h.2⟩
end
mutual
theorem Den.inj {H : Hp} : ∀ {t u : Th} {v : V}, cmpTh t u = true → Den H t v → Den H u v → t = u
  | .int i, .int j, v, _, d1, d2 => by
    cases (show v = V.int i from d1); cases (show V.int i = V.int j from d2); rfl
  | .str i, .str j, v, _, d1, d2 => by
    cases (show v = V.str i from d1); cases (show V.str i = V.str j from d2); rfl
  | .non, .non, v, _, d1, d2 => rfl
  | .tup ts, .tup us, v, c, d1, d2 => by
    obtain ⟨a1, xs, rfl, h1, e1⟩ := d1
    obtain ⟨a2, ys, e0, h2, e2⟩ := d2
    cases e0
    rw [h1] at h2
    cases h2
    rw [cmpTh] at c
    rw [Dens.inj c e1 e2]
  | .lst ts, .lst us, v, c, d1, d2 => by
    obtain ⟨a1, xs, rfl, h1, e1⟩ := d1
    obtain ⟨a2, ys, e0, h2, e2⟩ := d2
    cases e0
    rw [h1] at h2
    cases h2
    rw [cmpTh, Bool.and_eq_true] at c
    rw [Dens.inj c.1 e1 e2]
theorem Dens.inj {H : Hp} : ∀ {ts us : List Th} {xs : List V}, cmpThs ts us = true → Dens H ts xs → Dens H us xs → ts = us
  | [], [], _, _, _, _ => rfl
  | [], u :: us, xs, _, d1, d2 => by
    have e1 := d1.len
    have e2 := d2.len
    simp at e1 e2
    rw [e1] at e2
    simp at e2
  | t :: ts, [], xs, _, d1, d2 => by
    have e1 := d1.len
    have e2 := d2.len
    simp at e1 e2
    rw [e2] at e1
    simp at e1
  | t :: ts, u :: us, xs, c, d1, d2 => by
    obtain ⟨x, r, rfl, p1, q1⟩ := d1
    obtain ⟨x', r', e, p2, q2⟩ := d2
    cases e
    rw [cmpThs, Bool.and_eq_true] at c
    rw [Den.inj c.1 p1 p2, Dens.inj c.2 q1 q2]
end
theorem dens2_at {H : Hp} {ts us : List Th} {xs ys : List V} {vs ws : List Value} (d1 : Dens H ts xs) (d2 : Dens H us ys) (r1 : Vals xs vs) (r2 : Vals ys ws) (j : Nat) (h1 : j < vs.toArray.size) (h2 : j < ws.toArray.size) :
    ∃ t u v1 v2, ts[j]? = some t ∧ us[j]? = some u ∧ Den H t v1 ∧ Den H u v2 ∧ RelV v1 vs.toArray[j] ∧ RelV v2 ws.toArray[j] := by
  have l1 : j < ts.length := by rw [← d1.len, r1.length]; simpa using h1
  have l2 : j < us.length := by rw [← d2.len, r2.length]; simpa using h2
  obtain ⟨v1, e1, q1⟩ := d1.get (List.getElem?_eq_getElem l1)
  obtain ⟨v2, e2, q2⟩ := d2.get (List.getElem?_eq_getElem l2)
  obtain ⟨u1, f1, g1⟩ := r1.get e1
  obtain ⟨u2, f2, g2⟩ := r2.get e2
  have k1 : vs.toArray[j] = u1 := by
    have : vs[j]? = some vs.toArray[j] := by simp
    rw [this] at f1; exact Option.some.inj f1
  have k2 : ws.toArray[j] = u2 := by
    have : ws[j]? = some ws.toArray[j] := by simp
    rw [this] at f2; exact Option.some.inj f2
  exact ⟨_, _, v1, v2, List.getElem?_eq_getElem l1, List.getElem?_eq_getElem l2, q1, q2, by rw [k1]; exact g1, by rw [k2]; exact g2⟩
def EqIH (H : Hp) (s : Shared) (n : Nat) : Prop := ∀ (A : Around) (t u : Th) (v1 v2 : V) (u1 u2 : Value), depT t ≤ n → A.units + n < cLine → cmpTh t u = true → Den H t v1 → Den H u v2 → RelV v1 u1 → RelV v2 u2 → SeqAt.EqAt A s u1 u2 (eqTh t u)
theorem eqQ_tup {P : Program} {w : World} {H : Hp} {s : Shared} (hok : HOk P w H s.heap) {n : Nat} (ih : EqIH H s n) {A : Around} {ts us : List Th} {v1 v2 : V} {u1 u2 : Value} (hd' : depTs ts ≤ n) (hu : A.units + (n + 1) < cLine) (hc : cmpTh (.tup ts) (.tup us) = true)
    (d1 : Den H (.tup ts) v1) (d2 : Den H (.tup us) v2) (r1 : RelV v1 u1) (r2 : RelV v2 u2) : SeqAt.EqAt A s u1 u2 (eqTh (.tup ts) (.tup us)) := by
  by_cases hv : v1 = v2
  · subst hv
    have e := Den.inj hc d1 d2
    cases e
    rw [eqTh_refl hc]
    obtain ⟨a1, xs, rfl, h1, e1⟩ := d1
    cases (show u1 = Value.ref a1 from r1); cases (show u2 = Value.ref a1 from r2)
    exact SeqAt.EqAt.same _
  obtain ⟨a1, xs, rfl, h1, e1⟩ := d1
  obtain ⟨a2, ys, rfl, h2, e2⟩ := d2
  have hne : a1 ≠ a2 := fun z => hv (by rw [z])
  cases (show u1 = Value.ref a1 from r1); cases (show u2 = Value.ref a2 from r2)
  obtain ⟨_, ws1, q1, g1⟩ := (show ObjOk P w H s.heap a1 (.tup xs) from hok a1 _ h1)
  obtain ⟨_, ws2, q2, g2⟩ := (show ObjOk P w H s.heap a2 (.tup ys) from hok a2 _ h2)
  have z1 : ws1.toArray.size = ts.length := by rw [List.size_toArray, ← q1.length, e1.len]
  have z2 : ws2.toArray.size = us.length := by rw [List.size_toArray, ← q2.length, e2.len]
  rw [cmpTh] at hc
  have h := SeqAt.RcAt.tuples (A := A) (s := s) (e := eqAtJ ts us) (show s.heap.IsTuple a1 ws1.toArray from g1) (show s.heap.IsTuple a2 ws2.toArray from g2) (by omega) fun j j1 j2 => by
    obtain ⟨t, u, w1, w2, ht, hu', p1, p2, s1, s2⟩ := dens2_at e1 e2 q1 q2 j j1 j2
    have e : eqAtJ ts us j = eqTh t u := by unfold eqAtJ; rw [ht, hu']
    rw [e]
    exact ih A.in1 t u w1 w2 _ _ (by have := depTs_mem ht; omega) (by show A.units + 1 + n < cLine; omega) (cmpThs_at hc ht hu') p1 p2 s1 s2
  rw [z1, z2, eqThs_all] at h
  rw [eqTh]
  exact SeqAt.EqAt.of_refs hne h
theorem eqQ_lst {P : Program} {w : World} {H : Hp} {s : Shared} (hok : HOk P w H s.heap) {n : Nat} (ih : EqIH H s n) {A : Around} {ts us : List Th} {v1 v2 : V} {u1 u2 : Value} (hd' : depTs ts ≤ n) (hu : A.units + (n + 1) < cLine) (hc : cmpTh (.lst ts) (.lst us) = true)
    (d1 : Den H (.lst ts) v1) (d2 : Den H (.lst us) v2) (r1 : RelV v1 u1) (r2 : RelV v2 u2) : SeqAt.EqAt A s u1 u2 (eqTh (.lst ts) (.lst us)) := by
  by_cases hv : v1 = v2
  · subst hv
    have e := Den.inj hc d1 d2
    cases e
    rw [eqTh_refl hc]
    obtain ⟨a1, xs, rfl, h1, e1⟩ := d1
    cases (show u1 = Value.ref a1 from r1); cases (show u2 = Value.ref a1 from r2)
    exact SeqAt.EqAt.same _
  obtain ⟨a1, xs, rfl, h1, e1⟩ := d1
  obtain ⟨a2, ys, rfl, h2, e2⟩ := d2
  have hne : a1 ≠ a2 := fun z => hv (by rw [z])
  cases (show u1 = Value.ref a1 from r1); cases (show u2 = Value.ref a2 from r2)
  obtain ⟨_, ws1, n1, q1, g1⟩ := (show ObjOk P w H s.heap a1 (.lst xs) from hok a1 _ h1)
  obtain ⟨_, ws2, n2, q2, g2⟩ := (show ObjOk P w H s.heap a2 (.lst ys) from hok a2 _ h2)
  have z1 : ws1.toArray.size = ts.length := by rw [List.size_toArray, ← q1.length, e1.len]
  have z2 : ws2.toArray.size = us.length := by rw [List.size_toArray, ← q2.length, e2.len]
  rw [cmpTh, Bool.and_eq_true] at hc
  have hl : ts.length = us.length := by simpa using hc.2
  have h := SeqAt.RcAt.lists (A := A) (s := s) (e := eqAtJ ts us) (⟨_, g1, rfl, _, rfl⟩ : s.heap.IsList a1 ws1.toArray) (⟨_, g2, rfl, _, rfl⟩ : s.heap.IsList a2 ws2.toArray) (by rw [z1, z2, hl]) (by omega) fun j j1 j2 => by
    obtain ⟨t, u, w1, w2, ht, hu', p1, p2, s1, s2⟩ := dens2_at e1 e2 q1 q2 j j1 j2
    have e : eqAtJ ts us j = eqTh t u := by unfold eqAtJ; rw [ht, hu']
    rw [e]
    exact ih A.in1 t u w1 w2 _ _ (by have := depTs_mem ht; omega) (by show A.units + 1 + n < cLine; omega) (cmpThs_at hc.1 ht hu') p1 p2 s1 s2
  have ha := eqThs_all ts us
  rw [hl, Nat.min_self, beq_self_eq_true, Bool.and_true] at ha
  rw [z1, hl, ha] at h
  rw [eqTh]
  exact SeqAt.EqAt.of_refs hne h
theorem eqQ {P : Program} {w : World} {H : Hp} {s : Shared} (hok : HOk P w H s.heap) (n : Nat) : EqIH H s n := by
  induction n with
  | zero =>
    intro A t u v1 v2 u1 u2 hd hu hc d1 d2 r1 r2
    cases t with
    | int i => cases u with
      | int j =>
        cases (show v1 = V.int i from d1); cases (show v2 = V.int j from d2)
        obtain ⟨k1, rfl⟩ := (show ∃ k, u1 = Value.int i k from r1)
        obtain ⟨k2, rfl⟩ := (show ∃ k, u2 = Value.int j k from r2)
        rw [eqTh]
        exact SeqAt.EqAt.int_int (A := A) (s := s) i k1 j k2
      | _ => simp [cmpTh] at hc
    | str i => cases u with
      | str j =>
        cases (show v1 = V.str i from d1); cases (show v2 = V.str j from d2)
        obtain ⟨k1, rfl⟩ := (show ∃ k, u1 = Value.str i k from r1)
        obtain ⟨k2, rfl⟩ := (show ∃ k, u2 = Value.str j k from r2)
        rw [eqTh]
        exact SeqAt.EqAt.str_str (A := A) (s := s) i k1 j k2
      | _ => simp [cmpTh] at hc
    | non => cases u with
      | non =>
        cases (show v1 = V.non from d1); cases (show v2 = V.non from d2)
        cases (show u1 = Value.none from r1); cases (show u2 = Value.none from r2)
        rw [eqTh]
        exact SeqAt.EqAt.same _
      | _ => simp [cmpTh] at hc
    | tup ts => simp [depT] at hd
    | lst ts => simp [depT] at hd
    | bl b => simp [cmpTh] at hc
    | emp => simp [cmpTh] at hc
  | succ n ih =>
    intro A t u v1 v2 u1 u2 hd hu hc d1 d2 r1 r2
    cases t with
    | int i => exact ih A _ u v1 v2 u1 u2 (by simp [depT]) (by omega) hc d1 d2 r1 r2
    | str i => exact ih A _ u v1 v2 u1 u2 (by simp [depT]) (by omega) hc d1 d2 r1 r2
    | non => exact ih A _ u v1 v2 u1 u2 (by simp [depT]) (by omega) hc d1 d2 r1 r2
    | tup ts => cases u with
      | tup us => exact eqQ_tup hok ih (by simp [depT] at hd; omega) hu hc d1 d2 r1 r2
      | _ => simp [cmpTh] at hc
    | lst ts => cases u with
      | lst us => exact eqQ_lst hok ih (by simp [depT] at hd; omega) hu hc d1 d2 r1 r2
      | _ => simp [cmpTh] at hc
    | bl b => simp [cmpTh] at hc
    | emp => simp [cmpTh] at hc
section
variable {X : Cx}
theorem op_eqQ (hu : X.A.units + 64 < cLine) : OpR X (compareOp .Eq) (fun x y H Q => ∃ ts us, Den H (.tup ts) x ∧ Den H (.tup us) y ∧ depTs ts ≤ 50 ∧ cmpThs ts us = true ∧ Q (.bl (eqThs ts us)) H) := by
  intro pins s σ H x y v u Q I rx ry h
  obtain ⟨ts, us, d1, d2, hd, hc, q⟩ := h
  obtain ⟨a1, xs, rfl, h1, e1⟩ := d1
  obtain ⟨a2, ys, rfl, h2, e2⟩ := d2
  cases (show v = Value.ref a1 from rx); cases (show u = Value.ref a2 from ry)
  obtain ⟨_, ws1, q1, g1⟩ := (show ObjOk X.prog X.w H s.heap a1 (.tup xs) from I.hok a1 _ h1)
  obtain ⟨_, ws2, q2, g2⟩ := (show ObjOk X.prog X.w H s.heap a2 (.tup ys) from I.hok a2 _ h2)
  have z1 : ws1.toArray.size = ts.length := by rw [List.size_toArray, ← q1.length, e1.len]
  have z2 : ws2.toArray.size = us.length := by rw [List.size_toArray, ← q2.length, e2.len]
  have h := SeqAt.RcAt.tuples (A := X.A) (s := s) (e := eqAtJ ts us) (show s.heap.IsTuple a1 ws1.toArray from g1) (show s.heap.IsTuple a2 ws2.toArray from g2) (by omega) fun j j1 j2 => by
    obtain ⟨t, u, w1, w2, ht, hu', p1, p2, s1, s2⟩ := dens2_at e1 e2 q1 q2 j j1 j2
    have e : eqAtJ ts us j = eqTh t u := by unfold eqAtJ; rw [ht, hu']
    rw [e]
    exact eqQ I.hok 50 X.A.in1 t u w1 w2 _ _ (by have := depTs_mem ht; omega) (by show X.A.units + 1 + 50 < cLine; omega) (cmpThs_at hc ht hu') p1 p2 s1 s2
  rw [z1, z2, eqThs_all] at h
  exact h X.prog X.w _ _ ⟨.bl _, H, I, rfl, q⟩
end
theorem subL {cs : List (Str × Addr)} : ∀ {l : List (Str × Addr)}, (∀ p ∈ l, cs.lookup p.1 = some p.2) → ∀ (y : Str) (c : Addr), l.lookup y = some c → cs.lookup y = some c
  | [], _, y, c, h => by cases h
  | p :: l, k, y, c, h => by
    rw [List.lookup_cons] at h
    by_cases e : (y == p.1) = true
    · rw [e] at h
      have h' : p.2 = c := Option.some.inj h
      have ey : y = p.1 := beq_iff_eq.mp e
      rw [ey, ← h']
      exact k p (List.mem_cons_self ..)
    · have e' : (y == p.1) = false := Bool.eq_false_iff.mpr e
      rw [e'] at h
      exact subL (fun q hq => k q (List.mem_cons_of_mem _ hq)) y c h
theorem sub3 {cs : List (Str × Addr)} {x1 x2 x3 : Str} {c1 c2 c3 : Addr} (h1 : cs.lookup x1 = some c1) (h2 : cs.lookup x2 = some c2) (h3 : cs.lookup x3 = some c3) : ∀ (y : Str) (c : Addr), List.lookup y [(x1, c1), (x2, c2), (x3, c3)] = some c → cs.lookup y = some c :=
  subL fun p hp => by
    simp only [List.mem_cons, List.not_mem_nil, or_false] at hp
    rcases hp with rfl | rfl | rfl <;> assumption
theorem for_zip {K : PySem.W.Frag} {l1 l2 : Addr} {xs ys : List V} {g : TG} {tb : TS} {D : Ends} {σ : St} {H : Hp} (Pv : Nat → St → Hp → Prop) (h0 : Pv 0 σ H) (len : xs.length = ys.length)
    (hl : ∀ i σ H, i ≤ xs.length → Pv i σ H → SqL K H l1 xs ∧ SqL K H l2 ys)
    (hs : ∀ i x y T σ H, xs[i]? = some x → ys[i]? = some y → H T = none → Pv i σ H → g (.ref T) σ (upd H T (.tup [x, y])) fun σ2 H2 => tb { D with nx := Pv (i + 1), ct := Pv (i + 1), bk := D.nx } σ2 H2) (hd : ∀ σ H, Pv xs.length σ H → D.nx σ H) :
    ∃ W : Nat → Nat → St → Hp → Prop, (∃ m, W 0 m σ H) ∧ ∀ i m σ H, W i m σ H →
      ((Itz K l1 l2).stop i H ∧ D.nx σ H) ∨ ((Itz K l1 l2).go i H ∧ ∃ N : St → Hp → Prop, (∀ σ' H', N σ' H' → ∃ m', m' < m ∧ W (i + 1) m' σ' H') ∧ ∀ x H', (Itz K l1 l2).yld i H x H' → g x σ H' fun σ2 H2 => tb { D with nx := N, ct := N, bk := D.nx } σ2 H2) := by
  refine ⟨fun i m σ H => m = xs.length - i ∧ i ≤ xs.length ∧ Pv i σ H, ⟨xs.length, by simp, Nat.zero_le _, h0⟩, ?_⟩
  rintro i m σ H ⟨rfl, hi, p⟩
  obtain ⟨q1, q2⟩ := hl i σ H hi p
  by_cases hlt : i < xs.length
  · have ex : xs[i]? = some xs[i] := List.getElem?_eq_getElem hlt
    have ey : ys[i]? = some (ys[i]'(by omega)) := List.getElem?_eq_getElem (by omega)
    refine .inr ⟨⟨xs, ys, _, _, q1, q2, ex, ey⟩, Pv (i + 1), fun σ' H' z => ⟨xs.length - (i + 1), by omega, rfl, hlt, z⟩, ?_⟩
    rintro v H' ⟨T, x, y, fr, rfl, rfl, hx, hy⟩
    exact hs i x y T σ H (hx xs q1) (hy ys q2) fr p
  · have ei : i = xs.length := by omega
    subst ei
    exact .inl ⟨⟨xs, ys, q1, q2, .inl (Nat.le_refl _)⟩, hd σ H p⟩
theorem comp_rangeR {lo : Int} {n : Nat} {te : TE} {st : St} {H1 : Hp} {Q : VK} {D : Addr} (R : Nat → List V → Hp → Prop) (hD : H1 D = none) (hn : n ≤ sizeLine) (h0 : R 0 [] (upd H1 D (.lst [])))
    (hs : ∀ (i : Nat) (ys : List V) (H2 : Hp) (k : VK), i < n → Same H1 H2 → H2 D = some (.lst ys) → R i ys H2 → (∀ y H4, Same H2 H4 → R (i + 1) (ys ++ [y]) (upd H4 D (.lst (ys ++ [y]))) → k y H4) → te (some (.int (lo + i)) :: st) H2 k)
    (hd : ∀ ys H2, Same H1 H2 → H2 D = some (.lst ys) → ys.length = n → R n ys H2 → Q (.ref D) H2) : CompGo (Itr lo n) te st D H1 Q := by
  refine ⟨fun i m ys H2 => m = n - i ∧ i ≤ n ∧ ys.length = i ∧ Same H1 H2 ∧ H2 D = some (.lst ys) ∧ R i ys H2, ⟨n, by simp, Nat.zero_le _, rfl, same_upd (Same.refl H1) hD, upd_same, h0⟩, ?_⟩
  rintro i m ys H2 ⟨rfl, hi, hl, sm, e, r⟩
  by_cases hlt : i < n
  · refine .inr ⟨hlt, ?_⟩
    rintro x H3 ⟨rfl, rfl⟩
    refine hs i ys _ _ hlt sm e r fun y H4 s4 r4 => ⟨s4 _ _ e, by omega, n - (i + 1), by omega, rfl, hlt, by simp [hl], same_upd (sm.trans s4) hD, upd_same, r4⟩
  · have ei : i = n := by omega
    subst ei
    exact .inl ⟨Nat.le_refl _, hd ys H2 sm e hl r⟩
end L2
set_option maxHeartbeats 4000000
namespace L2
open PySem PySem.Spec PyProof.Rows
theorem comp_pairF {α : Type} {K : PySem.W.Frag} {a : Addr} {xs : List V} {te : TE} {tt : TT} {st : St} {H1 : Hp} {Q : VK} {D : Addr} (ps : List α) (p : α → Bool) (R : α → V → V → Prop) (hD : H1 D = none) (q1 : SqT K H1 a xs) (hl : xs.length = ps.length) (hn : xs.length ≤ sizeLine)
    (hx : ∀ (i : Nat) (h : α), ps[i]? = some h → ∃ b u v, xs[i]? = some (.ref b) ∧ H1 b = some (.tup [u, v]) ∧ R h u v)
    (ht : ∀ (h : α) (u v : V) (H2 : Hp) (k : Bool → Hp → Prop), R h u v → Same H1 H2 → (∀ H4, Same H2 H4 → k (p h) H4) → tt (some u :: some v :: st) H2 k)
    (hs : ∀ (h : α) (u v : V) (H2 : Hp) (k : VK), R h u v → Same H1 H2 → (∀ x H4, Same H2 H4 → k x H4) → te (some u :: some v :: st) H2 k)
    (hd : ∀ H2 ys, Same H1 H2 → H2 D = some (.lst ys) → ys.length = (ps.filter p).length → Q (.ref D) H2) : CompG (Itt K a) (gTup K 2 (gCons (gName 0) (gCons (gName 1) gNil))) tt te 2 st D H1 Q := by
  refine ⟨fun i m zs H2 => m = xs.length - i ∧ i ≤ xs.length ∧ zs.length = ((ps.take i).filter p).length ∧ Same H1 H2 ∧ H2 D = some (.lst zs), ⟨xs.length, by simp, Nat.zero_le _, by simp, same_upd (Same.refl H1) hD, upd_same⟩, ?_⟩
  rintro i m zs H2 ⟨rfl, hi, hz, sm, e⟩
  by_cases hlt : i < xs.length
  · have ex : xs[i]? = some xs[i] := List.getElem?_eq_getElem hlt
    obtain ⟨h, ep⟩ : ∃ h, ps[i]? = some h := ⟨_, List.getElem?_eq_getElem (show i < ps.length by omega)⟩
    obtain ⟨b, u, v, e1, e2, r⟩ := hx i h ep
    refine .inr ⟨⟨xs, _, sm.tup q1, ex⟩, ?_⟩
    rintro x H3 σ0 ⟨rfl, hx'⟩ l0
    have hx2 := hx' xs (sm.tup q1)
    rw [e1] at hx2
    cases hx2
    obtain ⟨a', b', rfl⟩ : ∃ a b, σ0 = [a, b] := by
      match σ0, l0 with
      | [a, b], _ => exact ⟨a, b, rfl⟩
    refine ⟨b, [u, v], rfl, SqT.of (sm _ _ e2), rfl, u, [v], rfl, v, [], rfl, rfl, ⟨[some u, some v], rfl, rfl⟩, ?_⟩
    have tk : ps.take (i + 1) = ps.take i ++ [h] := by rw [List.take_add_one, ep]; rfl
    have ln : ((ps.take i).filter p).length ≤ i := Nat.le_trans (List.length_filter_le _ _) (by simp; omega)
    refine ht h u v _ _ r sm fun H4 s4 => ?_
    cases hp : p h with
    | true =>
      rw [if_pos rfl]
      refine hs h u v _ _ r (sm.trans s4) fun y H5 s5 => ⟨s5 _ _ (s4 _ _ e), by omega, xs.length - (i + 1), by omega, rfl, hlt, ?_, same_upd (sm.trans (s4.trans s5)) hD, upd_same⟩
      rw [tk, List.filter_append]
      simp [hp, hz]
    | false =>
      rw [if_neg Bool.false_ne_true]
      refine ⟨xs.length - (i + 1), by omega, rfl, hlt, ?_, sm.trans s4, s4 _ _ e⟩
      rw [tk, List.filter_append]
      simp [hp, hz]
  · have ei : i = xs.length := by omega
    subst ei
    refine .inl ⟨⟨xs, sm.tup q1, Nat.le_refl _⟩, hd _ zs sm e ?_⟩
    rw [hz, List.take_of_length_le (by omega)]
theorem comp_listC {α : Type} {K : PySem.W.Frag} {a : Addr} {xs : List V} {te : TE} {tt : TT} {st : St} {H1 : Hp} {Q : VK} {D : Addr} (ps : List α) (p : α → Bool) (R : α → V → Prop) (hD : H1 D = none) (q1 : SqL K H1 a xs) (hl : xs.length = ps.length) (hn : xs.length ≤ sizeLine)
    (hx : ∀ (i : Nat) (h : α), ps[i]? = some h → ∃ u, xs[i]? = some u ∧ R h u)
    (ht : ∀ (h : α) (u : V) (H2 : Hp) (k : Bool → Hp → Prop), R h u → Same H1 H2 → (∀ H4, Same H2 H4 → k (p h) H4) → tt (some u :: st) H2 k)
    (hs : ∀ (h : α) (u : V) (H2 : Hp) (k : VK), R h u → Same H1 H2 → (∀ x H4, Same H2 H4 → k x H4) → te (some u :: st) H2 k)
    (hd : ∀ H2 ys, Same H1 H2 → H2 D = some (.lst ys) → ys.length = (ps.filter p).length → Q (.ref D) H2) : CompG (Itl K a) (gName 0) tt te 1 st D H1 Q := by
  refine ⟨fun i m zs H2 => m = xs.length - i ∧ i ≤ xs.length ∧ zs.length = ((ps.take i).filter p).length ∧ Same H1 H2 ∧ H2 D = some (.lst zs), ⟨xs.length, by simp, Nat.zero_le _, by simp, same_upd (Same.refl H1) hD, upd_same⟩, ?_⟩
  rintro i m zs H2 ⟨rfl, hi, hz, sm, e⟩
  by_cases hlt : i < xs.length
  · have ex : xs[i]? = some xs[i] := List.getElem?_eq_getElem hlt
    obtain ⟨h, ep⟩ : ∃ h, ps[i]? = some h := ⟨_, List.getElem?_eq_getElem (show i < ps.length by omega)⟩
    obtain ⟨u, e1, r⟩ := hx i h ep
    refine .inr ⟨⟨xs, _, sm.seq q1, ex⟩, ?_⟩
    rintro x H3 σ0 ⟨rfl, hx'⟩ l0
    have hx2 := hx' xs (sm.seq q1)
    rw [e1] at hx2
    cases hx2
    obtain ⟨a', rfl⟩ : ∃ a, σ0 = [a] := by
      match σ0, l0 with
      | [a], _ => exact ⟨a, rfl⟩
    refine ⟨⟨[some u], rfl, rfl⟩, ?_⟩
    have tk : ps.take (i + 1) = ps.take i ++ [h] := by rw [List.take_add_one, ep]; rfl
    have ln : ((ps.take i).filter p).length ≤ i := Nat.le_trans (List.length_filter_le _ _) (by simp; omega)
    refine ht h u _ _ r sm fun H4 s4 => ?_
    cases hp : p h with
    | true =>
      rw [if_pos rfl]
      refine hs h u _ _ r (sm.trans s4) fun y H5 s5 => ⟨s5 _ _ (s4 _ _ e), by omega, xs.length - (i + 1), by omega, rfl, hlt, ?_, same_upd (sm.trans (s4.trans s5)) hD, upd_same⟩
      rw [tk, List.filter_append]
      simp [hp, hz]
    | false =>
      rw [if_neg Bool.false_ne_true]
      refine ⟨xs.length - (i + 1), by omega, rfl, hlt, ?_, sm.trans s4, s4 _ _ e⟩
      rw [tk, List.filter_append]
      simp [hp, hz]
  · have ei : i = xs.length := by omega
    subst ei
    refine .inl ⟨⟨xs, sm.seq q1, Nat.le_refl _⟩, hd _ zs sm e ?_⟩
    rw [hz, List.take_of_length_le (by omega)]
end L2
set_option maxHeartbeats 4000000
namespace L2
open PySem PySem.Spec PyProof.Rows
section
variable {prog : Program} {w : World} {A : Around} {E : Value → Shared → Prop} {s : Shared}
theorem tnext_item {j tu : Addr} {i : Nat} {its : Array Value} {v : Value} {Q : Value → Shared → Prop} (hj : s.heap.IsTupleIter j tu i) (ht : s.heap.IsTuple tu its) (hv : its[i]? = some v)
    (k : ∀ g, g.IsTupleIter j tu (i + 1) → Heap.SameBut j s.heap g → Q v { s with heap := g }) : wpAny (model prog w) A (Builtin.SmallTypes.nextOf (.ref j)) Q E s := by
  obtain ⟨oj, ej, cj, dj⟩ := id hj
  obtain ⟨ot, et, _, nt, dt⟩ := ht
  unfold Builtin.SmallTypes.nextOf
  refine (wpAny_bind (wpAny_callSpecial?_slot (name := Str.ofString "__next__") hj.typeIs F.slot_tuple_iterator_next (wpAny_call_entry F.slot_tuple_iterator_next hj.typeIs F.entry_tuple_iterator_next ?_ (F.args_tuple_iterator_next_1 _))))
  show wpAny _ _ (field (.ref j) 0 >>= _) _ _ s
  refine (wpAny_bind (wpAny_field ej dj (x := .ref tu) rfl ?_))
  show wpAny _ _ (if (Value.ref tu == Value.none) = true then _ else _) _ _ s
  rw [if_neg (show ¬ ((Value.ref tu == Value.none) = true) from Bool.false_ne_true)]
  show wpAny _ _ (field (.ref j) 1 >>= _) _ _ s
  refine (wpAny_bind (wpAny_field ej dj (x := .int i 0) rfl ?_))
  show wpAny _ _ (seqItems? (.ref tu) >>= _) _ _ s
  refine (wpAny_bind (wpAny_seqItems et dt ?_))
  simp only [Int.toNat_natCast, hv]
  refine (wpAny_bind (wpAny_setField ej dj (by simp) (wpAny_pure ⟨v, rfl, wpAny_pure (k _ ?_ (Heap.SameBut.update ..))⟩)))
  refine ⟨_, Heap.get?_update_self _ ej (Obj.isFreed_of_fields (Obj.data_mapFields dj _)), (Obj.cls_mapFields ..).trans cj, ?_⟩
  rw [Obj.data_mapFields dj]
  simp [rawInt]
theorem tnext_end {j tu : Addr} {i : Nat} {its : Array Value} {Q : Value → Shared → Prop} (hh : A.handled = none) (hj : s.heap.IsTupleIter j tu i) (ht : s.heap.IsTuple tu its) (hv : its[i]? = none)
    (k : ∀ g e, Heap.ExtBut j s.heap g → (∃ o, g.get? e = some o ∧ o.cls = .type "StopIteration") → E (.ref e) { s with heap := g }) : wpAny (model prog w) A (Builtin.SmallTypes.nextOf (.ref j)) Q E s := by
  obtain ⟨oj, ej, cj, dj⟩ := id hj
  obtain ⟨ot, et, _, nt, dt⟩ := ht
  unfold Builtin.SmallTypes.nextOf
  refine (wpAny_bind (wpAny_callSpecial?_slot (name := Str.ofString "__next__") hj.typeIs F.slot_tuple_iterator_next (wpAny_call_entry F.slot_tuple_iterator_next hj.typeIs F.entry_tuple_iterator_next ?_ (F.args_tuple_iterator_next_1 _))))
  show wpAny _ _ (field (.ref j) 0 >>= _) _ _ s
  refine (wpAny_bind (wpAny_field ej dj (x := .ref tu) rfl ?_))
  show wpAny _ _ (if (Value.ref tu == Value.none) = true then _ else _) _ _ s
  rw [if_neg (show ¬ ((Value.ref tu == Value.none) = true) from Bool.false_ne_true)]
  show wpAny _ _ (field (.ref j) 1 >>= _) _ _ s
  refine (wpAny_bind (wpAny_field ej dj (x := .int i 0) rfl ?_))
  show wpAny _ _ (seqItems? (.ref tu) >>= _) _ _ s
  refine (wpAny_bind (wpAny_seqItems et dt ?_))
  simp only [Int.toNat_natCast, hv]
  refine (wpAny_bind (wpAny_rule (wpAny_bind (wpAny_setField ej dj (by simp) ?_))))
  show wpAny _ _ (newExc (.type "StopIteration") [] >>= _) (_) _ _
  refine (wpAny_bind ?_)
  simp only [newExc, newTuple]
  refine (wpAny_bind (wpAny_newObj_type ?_ (by size_fits)))
  refine (wpAny_bind (m := firstArgMember _ _) (wpAny_of_eq (a := Value.none) (by first | rfl | (simp only [firstArgMember]; rfl)) ?_))
  refine (wpAny_newObj_type ?_ (by size_fits))
  simp only [raiseNew]
  refine (wpAny_bind (wpAny_handled ?_))
  rw [show A.in1.handled = none from hh]
  refine (wpAny_bind (wpAny_pure (wpAny_throw ?_)))
  exact k _ _ (((Heap.SameBut.update ..).extBut.push _).push _) ⟨_, Heap.get?_push_size _ rfl, rfl⟩
theorem zt_next {z TI TO j1 j2 t1 t2 : Addr} {k1 k2 : Nat} {xs ys : Array Value} {u v c d : Value} {Q : Value → Shared → Prop} (ap : ZipApart z TI TO j1 j2 t1 t2) (hz : IsZip s.heap z TI TO .none) (hI : IsPair s.heap TI (.ref j1) (.ref j2)) (hO : IsPair s.heap TO c d)
    (i1 : s.heap.IsTupleIter j1 t1 k1) (i2 : s.heap.IsTupleIter j2 t2 k2) (q1 : s.heap.IsTuple t1 xs) (q2 : s.heap.IsTuple t2 ys) (hu : xs[k1]? = some u) (hv : ys[k2]? = some v)
    (k : ∀ g, IsZip g z TI TO (rawInt s.heap.objs.size) → IsPair g TO u v → g.IsTupleIter j1 t1 (k1 + 1) → g.IsTupleIter j2 t2 (k2 + 1) → IsPair g s.heap.objs.size u v → g.objs.size = s.heap.objs.size + 1 →
      (∀ b o, b ≠ z → b ≠ TO → b ≠ j1 → b ≠ j2 → s.heap.get? b = some o → g.get? b = some o) → Q (.ref s.heap.objs.size) { s with heap := g }) :
    wpAny (model prog w) A (Builtin.«zip.__next__» ⟨[.ref z], []⟩) (fun f s' => ∃ r, f = .done (.ret r) ∧ Q r s') E s := by
  show wpAny _ _ (field (.ref z) 2 >>= _) (_) _ _
  refine (wpAny_bind (wpAny_field hz rfl (x := .bool false) rfl ?_))
  show wpAny _ _ (field (.ref z) 3 >>= _) (_) _ _
  refine (wpAny_bind (wpAny_field hz rfl (x := .ref TI) rfl ?_))
  refine (wpAny_bind (wpAny_seqItems hI rfl ?_))
  show wpAny _ _ (Builtin.SmallTypes.ownedTupleIsFree (.ref z) >>= _) (_) _ _
  refine (wpAny_bind ?_)
  unfold Builtin.SmallTypes.ownedTupleIsFree
  refine (wpAny_bind (wpAny_field hz rfl (x := .none) rfl (wpAny_pure ?_)))
  simp only [if_true]
  refine (wpAny_bind (wpAny_rule ?_))
  refine (wpAny_bind (wpAny_field hz rfl (x := .ref TO) rfl ?_))
  refine (wpAny_bind (wpAny_setField_rec hz (by simp) fun g1 z1 s1 => ?_))
  replace z1 : IsZip g1 z TI TO .ellipsis := z1
  refine (wpAny_bind ?_)
  simp only [List.zipIdx_cons, List.zipIdx_nil, List.forIn_cons, List.forIn_nil, id]
  refine (wpAny_bind (wpAny_bind (wpAny_onRaise ?_)))
  show wpAny _ _ (Builtin.SmallTypes.nextOf (.ref j1) >>= _) (_) _ _
  refine (wpAny_bind (tnext_item (i1.extBut s1.extBut ap.i1z) (q1.extBut s1.extBut ap.l1z) hu fun g2 n1 s2 => wpAny_pure ?_))
  have O2 : IsPair g2 TO c d := s2.extBut _ _ ap.TOi1 (s1.extBut _ _ ap.TOz hO)
  refine (wpAny_bind (wpAny_seqItems O2 rfl ?_))
  refine (wpAny_bind (wpAny_updateSeq_pair O2 fun g3 O3 s3 => ?_))
  replace O3 : IsPair g3 TO u d := O3
  refine (wpAny_bind (wpAny_letGo (wpAny_pure ?_)))
  refine (wpAny_bind (wpAny_bind (wpAny_onRaise ?_)))
  show wpAny _ _ (Builtin.SmallTypes.nextOf (.ref j2) >>= _) (_) _ _
  refine (wpAny_bind (tnext_item (((i2.extBut s1.extBut ap.i2z).extBut s2.extBut ap.i12.symm).extBut s3.extBut ap.TOi2.symm) (((q2.extBut s1.extBut ap.l2z).extBut s2.extBut ap.l2i1).extBut s3.extBut ap.l2TO) hv fun g4 n2 s4 => wpAny_pure ?_))
  have O4 : IsPair g4 TO u d := s4.extBut _ _ ap.TOi2 O3
  refine (wpAny_bind (wpAny_seqItems O4 rfl ?_))
  refine (wpAny_bind (wpAny_updateSeq_pair O4 fun g5 O5 s5 => ?_))
  replace O5 : IsPair g5 TO u v := O5
  refine (wpAny_bind (wpAny_letGo (wpAny_pure (wpAny_pure ?_))))
  refine (wpAny_bind (wpAny_seqItems O5 rfl ?_))
  refine (wpAny_bind (wpAny_newTuple ?_))
  have sz : g5.objs.size = s.heap.objs.size := by rw [s5.1, s4.1, s3.1, s2.1, s1.1]
  have Z5 : IsZip g5 z TI TO .ellipsis := s5.extBut _ _ ap.TOz.symm (s4.extBut _ _ ap.i2z.symm (s3.extBut _ _ ap.TOz.symm (s2.extBut _ _ ap.i1z.symm z1)))
  have K5 : ∀ b o, b ≠ z → b ≠ TO → b ≠ j1 → b ≠ j2 → s.heap.get? b = some o → g5.get? b = some o := fun b o b1 b2 b3 b4 e => s5.extBut _ _ b2 (s4.extBut _ _ b4 (s3.extBut _ _ b2 (s2.extBut _ _ b3 (s1.extBut _ _ b1 e))))
  have I1 : g5.IsTupleIter j1 t1 (k1 + 1) := ((n1.extBut s3.extBut ap.TOi1.symm).extBut s4.extBut ap.i12).extBut s5.extBut ap.TOi1.symm
  have I2 : g5.IsTupleIter j2 t2 (k2 + 1) := n2.extBut s5.extBut ap.TOi2.symm
  have zlt : z < g5.objs.size := Heap.lt_size Z5
  show wpAny _ _ (Builtin.SmallTypes.ownedTupleHandOut (.ref z) (.ref g5.objs.size) >>= _) (_) _ _
  refine (wpAny_bind ?_)
  unfold Builtin.SmallTypes.ownedTupleHandOut
  have Z6 : IsZip (g5.push { cls := .type "tuple", data := .seq #[u, v] }) z TI TO .ellipsis := Heap.get?_push_of_some _ Z5
  refine (wpAny_bind (wpAny_setField_rec Z6 (by simp) fun g7 Z7 s7 => ?_))
  replace Z7 : IsZip g7 z TI TO (rawInt g5.objs.size) := Z7
  refine wpAny_setField_rec Z7 (by simp) fun g8 Z8 s8 => ?_
  replace Z8 : IsZip g8 z TI TO (rawInt g5.objs.size) := Z8
  have up : ∀ b o, b ≠ z → g5.get? b = some o → g8.get? b = some o := fun b o nb e => s8.extBut _ _ nb (s7.extBut _ _ nb (Heap.get?_push_of_some _ e))
  have T8 : IsPair g8 g5.objs.size u v := s8.extBut _ _ (Nat.ne_of_gt zlt) (s7.extBut _ _ (Nat.ne_of_gt zlt) (Heap.get?_push_size _ rfl))
  have N8 : g8.objs.size = g5.objs.size + 1 := by rw [s8.1, s7.1, Heap.size_push]
  rw [sz] at Z8 T8 N8
  refine wpAny_pure ⟨_, rfl, ?_⟩
  show Q (.ref g5.objs.size) _
  rw [sz]
  exact k g8 Z8 (up _ _ ap.TOz O5) (I1.at fun o e => up _ o ap.i1z e) (I2.at fun o e => up _ o ap.i2z e) T8 N8 fun b o b1 b2 b3 b4 e => up b o b1 (K5 b o b1 b2 b3 b4 e)
theorem zt_end {z TI TO j1 j2 t1 t2 : Addr} {k1 k2 : Nat} {xs ys : Array Value} {c d : Value} {Q : Fin → Shared → Prop} (hh : A.handled = none) (ap : ZipApart z TI TO j1 j2 t1 t2) (hz : IsZip s.heap z TI TO .none) (hI : IsPair s.heap TI (.ref j1) (.ref j2)) (hO : IsPair s.heap TO c d)
    (i1 : s.heap.IsTupleIter j1 t1 k1) (i2 : s.heap.IsTupleIter j2 t2 k2) (q1 : s.heap.IsTuple t1 xs) (q2 : s.heap.IsTuple t2 ys) (he : xs[k1]? = none ∨ ys[k2]? = none)
    (k : ∀ g e, (∀ b o, b ≠ z → b ≠ TO → b ≠ j1 → b ≠ j2 → s.heap.get? b = some o → g.get? b = some o) → (∃ o, g.get? e = some o ∧ o.cls = .type "StopIteration") → E (.ref e) { s with heap := g }) :
    wpAny (model prog w) A (Builtin.«zip.__next__» ⟨[.ref z], []⟩) Q E s := by
  show wpAny _ _ (field (.ref z) 2 >>= _) (_) _ _
  refine (wpAny_bind (wpAny_field hz rfl (x := .bool false) rfl ?_))
  show wpAny _ _ (field (.ref z) 3 >>= _) (_) _ _
  refine (wpAny_bind (wpAny_field hz rfl (x := .ref TI) rfl ?_))
  refine (wpAny_bind (wpAny_seqItems hI rfl ?_))
  show wpAny _ _ (Builtin.SmallTypes.ownedTupleIsFree (.ref z) >>= _) (_) _ _
  refine (wpAny_bind ?_)
  unfold Builtin.SmallTypes.ownedTupleIsFree
  refine (wpAny_bind (wpAny_field hz rfl (x := .none) rfl (wpAny_pure ?_)))
  simp only [if_true]
  refine (wpAny_bind (wpAny_rule ?_))
  refine (wpAny_bind (wpAny_field hz rfl (x := .ref TO) rfl ?_))
  refine (wpAny_bind (wpAny_setField_rec hz (by simp) fun g1 z1 s1 => ?_))
  replace z1 : IsZip g1 z TI TO .ellipsis := z1
  refine (wpAny_bind ?_)
  simp only [List.zipIdx_cons, List.zipIdx_nil, List.forIn_cons, List.forIn_nil, id]
  refine (wpAny_bind (wpAny_bind (wpAny_onRaise ?_)))
  show wpAny _ _ (Builtin.SmallTypes.nextOf (.ref j1) >>= _) (_) _ _
  cases hu : xs[k1]? with
  | none =>
    refine (wpAny_bind (tnext_end hh (i1.extBut s1.extBut ap.i1z) (q1.extBut s1.extBut ap.l1z) hu fun g2 e s2 he => ?_))
    obtain ⟨oe, ho, hc⟩ := he
    have Z2 : IsZip g2 z TI TO .ellipsis := s2 _ _ ap.i1z.symm z1
    have nz : e ≠ z := fun x => by
      subst x
      rw [Z2] at ho
      cases ho
      simp at hc
    refine wpAny_setField_rec Z2 (by simp) fun g3 _ s3 => k g3 e (fun b o b1 _ b3 _ x => s3.extBut _ _ b1 (s2 _ _ b3 (s1.extBut _ _ b1 x))) ⟨oe, s3.extBut _ _ nz ho, hc⟩
  | some u =>
    have hv : ys[k2]? = none := by
      rcases he with q | q
      · rw [hu] at q; cases q
      · exact q
    refine (wpAny_bind (tnext_item (i1.extBut s1.extBut ap.i1z) (q1.extBut s1.extBut ap.l1z) hu fun g2 n1 s2 => wpAny_pure ?_))
    have O2 : IsPair g2 TO c d := s2.extBut _ _ ap.TOi1 (s1.extBut _ _ ap.TOz hO)
    refine (wpAny_bind (wpAny_seqItems O2 rfl ?_))
    refine (wpAny_bind (wpAny_updateSeq_pair O2 fun g3 O3 s3 => ?_))
    refine (wpAny_bind (wpAny_letGo (wpAny_pure ?_)))
    refine (wpAny_bind (wpAny_bind (wpAny_onRaise ?_)))
    show wpAny _ _ (Builtin.SmallTypes.nextOf (.ref j2) >>= _) (_) _ _
    refine (wpAny_bind (tnext_end hh (((i2.extBut s1.extBut ap.i2z).extBut s2.extBut ap.i12.symm).extBut s3.extBut ap.TOi2.symm) (((q2.extBut s1.extBut ap.l2z).extBut s2.extBut ap.l2i1).extBut s3.extBut ap.l2TO) hv fun g4 e s4 he => ?_))
    obtain ⟨oe, ho, hc⟩ := he
    have Z4 : IsZip g4 z TI TO .ellipsis := s4 _ _ ap.i2z.symm (s3.extBut _ _ ap.TOz.symm (s2.extBut _ _ ap.i1z.symm z1))
    have nz : e ≠ z := fun x => by
      subst x
      rw [Z4] at ho
      cases ho
      simp at hc
    refine wpAny_setField_rec Z4 (by simp) fun g5 _ s5 => k g5 e (fun b o b1 b2 b3 b4 x => s5.extBut _ _ b1 (s4 _ _ b4 (s3.extBut _ _ b2 (s2.extBut _ _ b3 (s1.extBut _ _ b1 x))))) ⟨oe, s5.extBut _ _ nz ho, hc⟩
theorem zt_pyNext {z TI TO j1 j2 t1 t2 : Addr} {k1 k2 : Nat} {xs ys : Array Value} {u v c d : Value} {Q : Option Value → Shared → Prop} (ap : ZipApart z TI TO j1 j2 t1 t2) (hz : IsZip s.heap z TI TO .none) (hI : IsPair s.heap TI (.ref j1) (.ref j2)) (hO : IsPair s.heap TO c d)
    (i1 : s.heap.IsTupleIter j1 t1 k1) (i2 : s.heap.IsTupleIter j2 t2 k2) (q1 : s.heap.IsTuple t1 xs) (q2 : s.heap.IsTuple t2 ys) (hu : xs[k1]? = some u) (hv : ys[k2]? = some v)
    (k : ∀ g, IsZip g z TI TO (rawInt s.heap.objs.size) → IsPair g TO u v → g.IsTupleIter j1 t1 (k1 + 1) → g.IsTupleIter j2 t2 (k2 + 1) → IsPair g s.heap.objs.size u v → g.objs.size = s.heap.objs.size + 1 →
      (∀ b o, b ≠ z → b ≠ TO → b ≠ j1 → b ≠ j2 → s.heap.get? b = some o → g.get? b = some o) → Q (some (.ref s.heap.objs.size)) { s with heap := g }) : wpAny (model prog w) A (pyNext (.ref z)) Q E s := by
  have ty : s.TypeIs (.ref z) "zip" := ⟨_, hz, rfl⟩
  unfold pyNext
  exact wpAny_bind (wpAny_attempt (wpAny_callSpecial?_slot (name := Str.ofString "__next__") ty F.slot_zip_next (wpAny_call_entry F.slot_zip_next ty F.entry_zip_next (zt_next ap hz hI hO i1 i2 q1 q2 hu hv fun g a1 a2 a3 a4 a5 a6 a7 => wpAny_pure (k g a1 a2 a3 a4 a5 a6 a7)) (F.args_zip_next_1 _))))
theorem zt_pyEnd {z TI TO j1 j2 t1 t2 : Addr} {k1 k2 : Nat} {xs ys : Array Value} {c d : Value} {Q : Option Value → Shared → Prop} (hh : A.handled = none) (ap : ZipApart z TI TO j1 j2 t1 t2) (hz : IsZip s.heap z TI TO .none) (hI : IsPair s.heap TI (.ref j1) (.ref j2)) (hO : IsPair s.heap TO c d)
    (i1 : s.heap.IsTupleIter j1 t1 k1) (i2 : s.heap.IsTupleIter j2 t2 k2) (q1 : s.heap.IsTuple t1 xs) (q2 : s.heap.IsTuple t2 ys) (he : xs[k1]? = none ∨ ys[k2]? = none)
    (k : ∀ g, (∀ b o, b ≠ z → b ≠ TO → b ≠ j1 → b ≠ j2 → s.heap.get? b = some o → g.get? b = some o) → Q none { s with heap := g }) : wpAny (model prog w) A (pyNext (.ref z)) Q E s := by
  have ty : s.TypeIs (.ref z) "zip" := ⟨_, hz, rfl⟩
  unfold pyNext
  refine (wpAny_bind (wpAny_attempt (wpAny_callSpecial?_slot (name := Str.ofString "__next__") ty F.slot_zip_next (wpAny_call_entry F.slot_zip_next ty F.entry_zip_next (zt_end hh ap hz hI hO i1 i2 q1 q2 he fun g e hk hs => ?_) (F.args_zip_next_1 _)))))
  obtain ⟨o, ho, hc⟩ := hs
  refine (wpAny_bind (wpAny_isInstance (T := "StopIteration") (b := true) ⟨o, ho, hc⟩ isSubtype_stop ?_))
  exact wpAny_pure (k _ hk)
abbrev zt1 (h : Heap) (a : Addr) : Heap := h.push { cls := .type "tuple_iterator", data := .fields #[.ref a, .int 0 0] }
abbrev zt2 (h : Heap) (a b : Addr) : Heap := (zt1 h a).push { cls := .type "tuple_iterator", data := .fields #[.ref b, .int 0 0] }
abbrev zt3 (h : Heap) (a b : Addr) : Heap := (zt2 h a b).push { cls := .type "tuple", data := .seq #[.ref h.objs.size, .ref (zt1 h a).objs.size] }
abbrev zt4 (h : Heap) (a b : Addr) : Heap := (zt3 h a b).push { cls := .type "tuple", data := .seq #[.none, .none] }
abbrev zt5 (h : Heap) (a b : Addr) : Heap := (zt4 h a b).push { cls := .type "zip", data := .fields #[.none, .bool false, .bool false, .ref (zt2 h a b).objs.size, .ref (zt3 h a b).objs.size] }
theorem zt_new (a b : Addr) (xs ys : Array Value) :
    Meets (Builtin.«zip.__new__» ⟨[.type "zip", .ref a, .ref b], []⟩) (fun _ R s => s.heap.IsTuple a xs ∧ s.heap.IsTuple b ys ∧ R (.ok (.ret (.ref (zt4 s.heap a b).objs.size))) { s with heap := zt5 s.heap a b }) :=
  .of_wp fun prog w A R s h => by
    obtain ⟨hp, g, dr, tk, os⟩ := s
    obtain ⟨h1, h2, h⟩ := h
    have sub := sub_zip
    have L1 : Heap.IsTuple (Shared.heap ⟨hp, g, dr, tk, os⟩) a xs := h1
    have L2 : Heap.IsTuple (Shared.heap ⟨hp.push { cls := .type "tuple_iterator", data := .fields #[.ref a, .int 0 0] }, g, dr, tk, os⟩) b ys := Heap.IsTuple.push h2 _
    wp_walk using wpAny_pyIter_tuple L1, wpAny_pyIter_tuple L2
    exact ⟨_, rfl, h⟩
theorem zt_call {a b : Addr} {xs ys : Array Value} {Q : Value → Shared → Prop} (h1 : s.heap.IsTuple a xs) (h2 : s.heap.IsTuple b ys)
    (k : ∀ g, IsZip g (s.heap.objs.size + 4) (s.heap.objs.size + 2) (s.heap.objs.size + 3) .none → IsPair g (s.heap.objs.size + 2) (.ref s.heap.objs.size) (.ref (s.heap.objs.size + 1)) → IsPair g (s.heap.objs.size + 3) .none .none →
      g.IsTupleIter s.heap.objs.size a 0 → g.IsTupleIter (s.heap.objs.size + 1) b 0 → (∀ c o, s.heap.get? c = some o → g.get? c = some o) → Q (.ref (s.heap.objs.size + 4)) { s with heap := g }) :
    wpAny (model prog w) A (call (.type "zip") [.ref a, .ref b]) Q E s := by
  refine callType_new F.called_zip (by decide) (F.typeCall_zip_2 _ _) (F.newCall_zip_2 _ _) (fun o => F.args_object_init_3 o _ _) F.entry_zip_new (zt_new a b xs ys) ⟨h1, h2, ?_⟩
  have z1 : (zt1 s.heap a).objs.size = s.heap.objs.size + 1 := Heap.size_push ..
  have z2 : (zt2 s.heap a b).objs.size = s.heap.objs.size + 2 := by rw [Heap.size_push, z1]
  have z3 : (zt3 s.heap a b).objs.size = s.heap.objs.size + 3 := by rw [Heap.size_push, z2]
  have z4 : (zt4 s.heap a b).objs.size = s.heap.objs.size + 4 := by rw [Heap.size_push, z3]
  have g5 : (zt5 s.heap a b).get? (zt4 s.heap a b).objs.size = some _ := Heap.get?_push_size _ rfl
  have g4 : (zt5 s.heap a b).get? (zt3 s.heap a b).objs.size = some _ := Heap.get?_push_of_some _ (Heap.get?_push_size _ rfl)
  have g3 : (zt5 s.heap a b).get? (zt2 s.heap a b).objs.size = some _ := Heap.get?_push_of_some _ (Heap.get?_push_of_some _ (Heap.get?_push_size _ rfl))
  have g2 : (zt5 s.heap a b).get? (zt1 s.heap a).objs.size = some _ := Heap.get?_push_of_some _ (Heap.get?_push_of_some _ (Heap.get?_push_of_some _ (Heap.get?_push_size _ rfl)))
  have g1 : (zt5 s.heap a b).get? s.heap.objs.size = some _ := Heap.get?_push_of_some _ (Heap.get?_push_of_some _ (Heap.get?_push_of_some _ (Heap.get?_push_of_some _ (Heap.get?_push_size _ rfl))))
  show _ ∧ _
  rw [z2, z3, z4] at g5
  rw [z1, z2] at g3
  rw [z3] at g4
  rw [z1] at g2
  rw [z4]
  exact ⟨⟨_, g5, rfl⟩, k _ g5 g3 g4 ⟨_, g1, rfl, rfl⟩ ⟨_, g2, rfl, rfl⟩ fun c o x => Heap.get?_push_of_some _ (Heap.get?_push_of_some _ (Heap.get?_push_of_some _ (Heap.get?_push_of_some _ (Heap.get?_push_of_some _ x))))⟩
end
def Itzt (K : PySem.W.Frag) (t1 t2 : Addr) : It :=
  ⟨fun i H => ∃ xs ys x y, SqT K H t1 xs ∧ SqT K H t2 ys ∧ xs[i]? = some x ∧ ys[i]? = some y,
   fun i H v H' => ∃ T x y, H T = none ∧ H' = upd H T (.tup [x, y]) ∧ v = .ref T ∧ (∀ xs, SqT K H t1 xs → xs[i]? = some x) ∧ ∀ ys, SqT K H t2 ys → ys[i]? = some y,
   fun i H => ∃ xs ys, SqT K H t1 xs ∧ SqT K H t2 ys ∧ (xs.length ≤ i ∨ ys.length ≤ i)⟩
def ZStT (z TI TO j1 j2 t1 t2 : Addr) (i : Nat) (h : Heap) : Prop :=
  IsZip h z TI TO Value.none ∧ IsPair h TI (.ref j1) (.ref j2) ∧ (∃ a b, IsPair h TO a b) ∧ h.IsTupleIter j1 t1 i ∧ h.IsTupleIter j2 t2 i
theorem isTuple_at {h : Heap} {l : Addr} {items : Array Value} (x : h.IsTuple l items) : ∃ o, h.get? l = some o ∧ o.cls = .type "tuple" := by
  obtain ⟨o, e, c, _⟩ := x
  exact ⟨o, e, c⟩
theorem turn_zipT {P : Program} {w : World} {K : PySem.W.Frag} {es : List Expr} {k0 : Nat} {p0 : Pos} {z TI TO i1 i2 l1 l2 : Addr} (ap : ZipApart z TI TO i1 i2 l1 l2) :
    Turn P w K (.Tuple es k0 p0) (Itzt K l1 l2) [z, TI, TO, i1, i2] z (ZStT z TI TO i1 i2 l1 l2) where
  mem := by simp
  obj := fun i h ⟨a, b, ⟨c1, c2, c⟩, d, e⟩ x hx => by
    simp only [List.mem_cons, List.not_mem_nil, or_false] at hx
    rcases hx with rfl | rfl | rfl | rfl | rfl
    · exact ⟨_, a, fun v q => by cases q⟩
    · exact ⟨_, b, fun v q => by cases q⟩
    · exact ⟨_, c, fun v q => by cases q⟩
    · obtain ⟨o, e1, _, e2⟩ := d
      exact ⟨o, e1, fun v q => by rw [e2] at q; cases q⟩
    · obtain ⟨o, e1, _, e2⟩ := e
      exact ⟨o, e1, fun v q => by rw [e2] at q; cases q⟩
  keep := fun i h h' ⟨a, b, ⟨c1, c2, c⟩, d, e⟩ kk =>
    ⟨kk _ (by simp) _ a, kk _ (by simp) _ b, ⟨c1, c2, kk _ (by simp) _ c⟩, d.at fun o q => kk _ (by simp) o q, e.at fun o q => kk _ (by simp) o q⟩
  item := by
    intro X hP hw hK hc i pins s σ H E I hf st hg
    subst hP hw hK
    obtain ⟨a, b, ⟨c1, c2, c⟩, d, e⟩ := st
    obtain ⟨xs, ys, x, y, q1, q2, x1, y1⟩ := hg
    obtain ⟨its1, rv1, pl1, hz1⟩ := I.tuple q1
    obtain ⟨its2, rv2, pl2, hz2⟩ := I.tuple q2
    obtain ⟨u1, hu1, ru1⟩ := rv1.get x1
    obtain ⟨u2, hu2, ru2⟩ := rv2.get y1
    refine zt_pyNext ap a b c d e (show s.heap.IsTuple l1 its1.toArray from pl1) (show s.heap.IsTuple l2 its2.toArray from pl2) (u := u1) (v := u2) (by simpa using hu1) (by simpa using hu2) fun h' za zb zc zd ze zs zk => ?_
    refine ⟨_, rfl, wpAny_letOwnedTupleGo_zip (s := { s with heap := h' }) za fun h2 za2 sb => ?_⟩
    have kk : ∀ b o, b ∉ [z, TI, TO, i1, i2] → s.heap.get? b = some o → h2.get? b = some o := fun b o hb q => by
      simp only [List.mem_cons, List.not_mem_nil, or_false, not_or] at hb
      exact (sb.2 b hb.1).trans (zk b o hb.1 hb.2.2.1 hb.2.2.2.1 hb.2.2.2.2 q)
    have szn : s.heap.objs.size ≠ z := fun q => by
      obtain ⟨f0, _⟩ := hf z (by simp)
      exact absurd (Heap.lt_size a) (by rw [← q]; exact Nat.lt_irrefl _)
    have hT : h2.get? s.heap.objs.size = some { cls := .type "tuple", data := .seq #[u1, u2] } := (sb.2 _ szn).trans ze
    have fr : H s.heap.objs.size = none := I.hok.fresh (Nat.le_refl _)
    have I2 : Inv X pins σ (upd H s.heap.objs.size (.tup [x, y])) { s with heap := h2 } := I.turnLay (t' := s.toks) (fp := [z, TI, TO, i1, i2]) kk hf (Nat.le_refl _)
      ⟨by show 2 ≤ sizeLine; decide, [u1, u2], .cons ru1 (.cons ru2 .nil), ⟨_, hT, rfl, _, rfl⟩⟩
    have kTI : h2.get? TI = some _ := (sb.2 TI ap.TIz).trans (zk TI _ ap.TIz ap.TITO ap.TIi1 ap.TIi2 b)
    refine ⟨.ref s.heap.objs.size, _, I2, rfl, ⟨_, x, y, fr, rfl, rfl, fun zs hz => by rw [I.tuple_inj hz q1]; exact x1, fun zs hz => by rw [I.tuple_inj hz q2]; exact y1⟩,
      ⟨za2, kTI, ⟨_, _, (sb.2 TO ap.TOz).trans zb⟩, zc.at fun o q => (sb.2 _ ap.i1z).trans q, zd.at fun o q => (sb.2 _ ap.i2z).trans q⟩, fun b hb => ?_⟩
    have h0 := (hf b hb).1
    have hlt : b ≠ s.heap.objs.size := fun q => by
      subst q
      simp only [List.mem_cons, List.not_mem_nil, or_false] at hb
      rcases hb with q | q | q | q | q
      · exact szn q
      · exact absurd (Heap.lt_size b) (by rw [← q]; exact Nat.lt_irrefl _)
      · exact absurd (Heap.lt_size c) (by rw [← q]; exact Nat.lt_irrefl _)
      · obtain ⟨o, e1, _⟩ := d
        exact absurd (Heap.lt_size e1) (by rw [← q]; exact Nat.lt_irrefl _)
      · obtain ⟨o, e1, _⟩ := e
        exact absurd (Heap.lt_size e1) (by rw [← q]; exact Nat.lt_irrefl _)
    rw [upd_ne hlt]
    exact h0
  done := by
    intro X hP hw hK hc i pins s σ H E I hf st hg
    subst hP hw hK
    obtain ⟨a, b, ⟨c1, c2, c⟩, d, e⟩ := st
    obtain ⟨xs, ys, q1, q2, hl⟩ := hg
    obtain ⟨its1, rv1, pl1, hz1⟩ := I.tuple q1
    obtain ⟨its2, rv2, pl2, hz2⟩ := I.tuple q2
    have g1 := rv1.length
    have g2 := rv2.length
    refine zt_pyEnd (I.ok.hd hc) ap a b c d e (show s.heap.IsTuple l1 its1.toArray from pl1) (show s.heap.IsTuple l2 its2.toArray from pl2) ?_ fun h' zk => ⟨rfl, I.turnedL (t' := s.toks) (fp := [z, TI, TO, i1, i2]) (fun b o hb q => ?_) hf⟩
    · rcases hl with q | q
      · left; simp; omega
      · right; simp; omega
    · simp only [List.mem_cons, List.not_mem_nil, or_false, not_or] at hb
      exact zk b o hb.1 hb.2.2.1 hb.2.2.2.1 hb.2.2.2.2 q
  self := fun _ _ _ _ _ st h => wpAny_pyIter_zip st.1 h
def iZipT (K : PySem.W.Frag) (ta : TA) : TI := fun σ H R => ta σ H fun vs H1 => ∃ a b, vs = [.ref a, .ref b] ∧ (∃ xs, SqT K H1 a xs) ∧ (∃ ys, SqT K H1 b ys) ∧ R (Itzt K a b) H1
theorem pi_zipT {X : Cx} {es : List Expr} {k0 : Nat} {p0 : Pos} {a b : Expr} {ta : TA} {p pos : Pos} (hg : Gl X "zip") (hm : X.mg "zip" = none) (ha : PA X [a, b] ta) (hs : starEach [a, b] X.env = [(false, eval a X.env), (false, eval b X.env)] := by rfl) (hs2 : starEach [b] X.env = [(false, eval b X.env)] := by rfl) :
    PI X (.Tuple es k0 p0) (.Call (.Name "zip" p) [a, b] [] pos) (iZipT X.K ta) := by
  intro pins s σ H R I h
  refine Call_ (ld_blt I hg hm boot_zip (PyProof.Rows.callWith_type1 (thn (ha pos pins s σ H _ I h) fun us s1 ⟨vs, H1, I1, r1, q1⟩ => ?_) (by rw [hs, hs2]) (by rw [hs2]; rfl)))
  obtain ⟨l1, l2, e, ⟨xs, q1⟩, ⟨ys, q2⟩, q⟩ := q1
  subst e
  cases r1 with
  | cons r rr =>
    cases rr with
    | cons r' rr =>
      cases rr
      cases r
      cases r'
      obtain ⟨its1, rv1, pl1, hz1⟩ := I1.tuple q1
      obtain ⟨its2, rv2, pl2, hz2⟩ := I1.tuple q2
      have T1 : s1.heap.IsTuple l1 its1.toArray := pl1
      have T2 : s1.heap.IsTuple l2 its2.toArray := pl2
      have lt1 : l1 < s1.heap.objs.size := by obtain ⟨o, e, _⟩ := isTuple_at T1; exact Heap.lt_size e
      have lt2 : l2 < s1.heap.objs.size := by obtain ⟨o, e, _⟩ := isTuple_at T2; exact Heap.lt_size e
      refine zt_call T1 T2 fun h' za zb zc zd ze zk => ?_
      refine wpAny_pyIter_zip (s := { s1 with heap := h' }) za ?_
      have I2 : Inv X pins σ H1 { s1 with heap := h' } := I1.kept (t' := s1.toks) fun b o e => zk b o e
      refine ⟨_, [_, _, _, _, _], _, _, H1, rfl, I2, turn_zipT (z := s1.heap.objs.size + 4) (TI := s1.heap.objs.size + 2) (TO := s1.heap.objs.size + 3) (i1 := s1.heap.objs.size) (i2 := s1.heap.objs.size + 1) (l1 := l1) (l2 := l2) ?_, ⟨za, zb, ⟨_, _, zc⟩, zd, ze⟩, fun b hb => ?_, q⟩
      · exact zapart lt1 lt2
      · simp only [List.mem_cons, List.not_mem_nil, or_false] at hb
        have ge : s1.heap.objs.size ≤ b := by rcases hb with z | z | z | z | z <;> (subst z; first | exact Nat.le_add_right _ _ | exact Nat.le_refl _)
        exact I1.fpOk ge (I1.hok.fresh ge)
theorem for_zipT {K : PySem.W.Frag} {l1 l2 : Addr} {xs ys : List V} {g : TG} {tb : TS} {D : Ends} {σ : St} {H : Hp} {n : Nat} (Pv : Nat → St → Hp → Prop) (h0 : Pv 0 σ H) (n1 : n ≤ xs.length) (n2 : n ≤ ys.length) (ne : xs.length = n ∨ ys.length = n)
    (hl : ∀ i σ H, i ≤ n → Pv i σ H → SqT K H l1 xs ∧ SqT K H l2 ys)
    (hs : ∀ i x y T σ H, i < n → xs[i]? = some x → ys[i]? = some y → H T = none → Pv i σ H → g (.ref T) σ (upd H T (.tup [x, y])) fun σ2 H2 => tb { D with nx := Pv (i + 1), ct := Pv (i + 1), bk := D.nx } σ2 H2) (hd : ∀ σ H, Pv n σ H → D.nx σ H) :
    ∃ W : Nat → Nat → St → Hp → Prop, (∃ m, W 0 m σ H) ∧ ∀ i m σ H, W i m σ H →
      ((Itzt K l1 l2).stop i H ∧ D.nx σ H) ∨ ((Itzt K l1 l2).go i H ∧ ∃ N : St → Hp → Prop, (∀ σ' H', N σ' H' → ∃ m', m' < m ∧ W (i + 1) m' σ' H') ∧ ∀ x H', (Itzt K l1 l2).yld i H x H' → g x σ H' fun σ2 H2 => tb { D with nx := N, ct := N, bk := D.nx } σ2 H2) := by
  refine ⟨fun i m σ H => m = n - i ∧ i ≤ n ∧ Pv i σ H, ⟨n, by simp, Nat.zero_le _, h0⟩, ?_⟩
  rintro i m σ H ⟨rfl, hi, p⟩
  obtain ⟨q1, q2⟩ := hl i σ H hi p
  by_cases hlt : i < n
  · have ex : xs[i]? = some (xs[i]'(by omega)) := List.getElem?_eq_getElem (by omega)
    have ey : ys[i]? = some (ys[i]'(by omega)) := List.getElem?_eq_getElem (by omega)
    refine .inr ⟨⟨xs, ys, _, _, q1, q2, ex, ey⟩, Pv (i + 1), fun σ' H' z => ⟨n - (i + 1), by omega, rfl, hlt, z⟩, ?_⟩
    rintro v H' ⟨T, x, y, fr, rfl, rfl, hx, hy⟩
    exact hs i x y T σ H hlt (hx xs q1) (hy ys q2) fr p
  · have ei : i = n := by omega
    subst ei
    refine .inl ⟨⟨xs, ys, q1, q2, ?_⟩, hd σ H p⟩
    rcases ne with z | z
    · exact .inl (by omega)
    · exact .inr (by omega)
end L2
set_option maxHeartbeats 4000000
namespace L2
open PySem PySem.Spec PyProof.Rows
set_option maxRecDepth 8000 in
theorem ext_tup (l : Addr) (its : Array Value) (n : Nat) (b : Addr) (its2 : Array Value) (n2 : Nat) (od : Option Addr) (os2 : Array (Option Value)) (h0 : ¬(!its.isEmpty && Builtin.List.listTooLong (its.size + its2.size)) = true) (h1 : its.size ≤ sizeLine) (h2 : its.size + its2.size ≤ sizeLine + 1) :
    Meets (Builtin.«list.extend» ⟨[.ref l, .ref b], []⟩) (fun _ R s => s.heap.get? l = some { cls := .type "list", dict := none, data := .seq its n, slots := #[] } ∧ s.heap.get? b = some { cls := .type "tuple", dict := od, data := .seq its2 n2, slots := os2 } ∧ R (.ok (.ret Value.none)) { s with heap := s.heap.update l (Obj.mapSeq fun x => x ++ its2), toks := s.toks }) :=
  .of_wp fun prog w A R s h => by
    obtain ⟨hp, g, d, tk, os⟩ := s
    obtain ⟨hl, hb, h⟩ := h
    have f1 := AutoSeq1.idx_int
    have f2 := AutoSeq1.sub_tuple_tuple
    have f3 := AutoSeq1.sub_list_list
    have f4 := AutoSeq1.sub_tuple_list
    have f5 := AutoSeq1.sub_list_tuple
    have hz : (its ++ its2).size ≤ sizeLine + 1 := by rw [Array.size_append]; exact h2
    wp_walk using (wpAny_updateSeq hl rfl (hz := h1) (_hz' := hz)), wpAny_loadPart' hl, wpAny_loadPart' hb
    exact ⟨_, rfl, h⟩
section
variable {X : Cx}
def rExtT : V → List V → Hp → VK → Prop := fun x vs H Q => ∃ l b xs zs, x = .ref l ∧ vs = [.ref b] ∧ H l = some (.lst xs) ∧ H b = some (.tup zs) ∧ xs.length + zs.length ≤ sizeLine ∧ Q .non (upd H l (.lst (xs ++ zs)))
theorem mt_extendT : MtM X "list.extend" rExtT := by
  intro pins s σ H x vs v us Q I rx rv h
  obtain ⟨l, b, xs, zs, rfl, rfl, hH, hB, hz, q⟩ := h
  cases rx
  obtain ⟨u, rfl, ru⟩ := rv.one
  cases ru
  obtain ⟨z, its, n, r, hl, e⟩ := I.lstM hH
  obtain ⟨z2, its2, r2, g2⟩ := (show ObjOk X.prog X.w H s.heap b (.tup zs) from I.hok b _ hB)
  have hl2 := r2.length
  obtain ⟨⟨oc, od, oda, osl⟩, e2, ecl, n2, eda⟩ := (show s.heap.IsTuple b its2.toArray from g2)
  simp only at ecl eda
  subst ecl eda
  have hsz : its.toArray.size + its2.toArray.size ≤ sizeLine := by rw [List.size_toArray, List.size_toArray]; omega
  have hlong : ¬ (!its.toArray.isEmpty && Builtin.List.listTooLong (its.toArray.size + its2.toArray.size)) = true := by
    rw [notLongL hsz, Bool.and_false]
    exact Bool.false_ne_true
  refine call_meets F.slot_list_extend ⟨_, e, rfl⟩ F.entry_list_extend (F.args_list_extend_2 _ _)
    (ext_tup l its.toArray n b its2.toArray n2 od osl hlong (by rw [List.size_toArray]; omega) (by omega)) ⟨e, e2, ?_⟩
  refine ⟨.non, _, I.lset (its' := its ++ its2) hH e (by simp) (r.append r2) ?_, rfl, q⟩
  rw [List.length_append]
  omega
end
def Prs (H : Hp) : List (Int × Int) → List V → Prop
  | [], xs => xs = []
  | z :: zs, xs => ∃ a ys, xs = .ref a :: ys ∧ H a = some (.tup [.int z.1, .int z.2]) ∧ Prs H zs ys
noncomputable def isPr (H : Hp) (z : Int × Int) (w : Value) : Bool := @decide (∃ a, w = Value.ref a ∧ H a = some (.tup [.int z.1, .int z.2])) (Classical.propDecidable _)
theorem isPr_ref {H : Hp} {z za : Int × Int} {a : Addr} (ha : H a = some (.tup [.int za.1, .int za.2])) : isPr H z (.ref a) = decide (za = z) := by
  rw [Bool.eq_iff_iff, isPr, @decide_eq_true_iff _ (Classical.propDecidable _), decide_eq_true_iff]
  constructor
  · rintro ⟨a', e, h⟩
    cases e
    rw [ha] at h
    simp only [Option.some.injEq, HO.tup.injEq, List.cons.injEq, V.int.injEq, and_true] at h
    exact Prod.ext h.1 h.2
  · rintro rfl
    exact ⟨a, rfl, ha⟩
theorem prs_mem {H : Hp} : ∀ {zs : List (Int × Int)} {xs : List V} {us : List Value}, Prs H zs xs → Vals xs us → ∀ w ∈ us, ∃ (a : Addr) (za : Int × Int), w = Value.ref a ∧ H a = some (.tup [.int za.1, .int za.2])
  | [], xs, us, h, r => by
    rw [show xs = [] from h] at r
    cases r
    intro w hw
    cases hw
  | z :: zs, xs, us, ⟨a, ys, e, ha, h⟩, r => by
    subst e
    cases r with
    | cons r1 rr =>
      cases r1
      intro w hw
      rcases List.mem_cons.mp hw with rfl | hw
      · exact ⟨a, z, rfl, ha⟩
      · exact prs_mem h rr w hw
theorem prs_any {H : Hp} {z : Int × Int} : ∀ {zs : List (Int × Int)} {xs : List V} {us : List Value}, Prs H zs xs → Vals xs us → us.any (isPr H z) = zs.any fun w => decide (w = z)
  | [], xs, us, h, r => by
    rw [show xs = [] from h] at r
    cases r
    rfl
  | z0 :: zs, xs, us, ⟨a, ys, e, ha, h⟩, r => by
    subst e
    cases r with
    | cons r1 rr =>
      cases r1
      rw [List.any_cons, List.any_cons, isPr_ref ha, prs_any h rr]
section
variable {X : Cx}
theorem op_notInP (hu : X.A.units + 64 < cLine) : OpR X (compareOp .NotIn) (fun x y H Q => ∃ l xs zs b z, x = .ref b ∧ y = .ref l ∧ SqL X.K H l xs ∧ Prs H zs xs ∧ H b = some (.tup [.int z.1, .int z.2]) ∧ Q (.bl (!zs.any fun w => decide (w = z))) H) := by
  intro pins s σ H x y v u Q I rx ry h
  obtain ⟨l, xs, zs, b, z, rfl, rfl, hq, hp, hb, q⟩ := h
  cases rx
  cases ry
  obtain ⟨its, r, pl, hz⟩ := I.list hq
  refine SeqAt.notIn_listAt (isPr H z) pl.isList (fun w hw => ?_) ⟨.bl _, H, I, rfl, ?_⟩
  · obtain ⟨a, za, rfl, ha⟩ := prs_mem hp r w (by simpa using hw)
    have k := eqQ I.hok 50 X.A.in1 (.tup [.int za.1, .int za.2]) (.tup [.int z.1, .int z.2]) (.ref a) (.ref b) (.ref a) (.ref b) (by simp [depT, depTs]) (by show X.A.units + 1 + 50 < cLine; omega) (by simp [cmpTh, cmpThs])
      ⟨a, _, rfl, ha, _, _, rfl, rfl, _, _, rfl, rfl, rfl⟩ ⟨b, _, rfl, hb, _, _, rfl, rfl, _, _, rfl, rfl, rfl⟩ rfl rfl
    have e : eqTh (.tup [.int za.1, .int za.2]) (.tup [.int z.1, .int z.2]) = isPr H z (.ref a) := by
      rw [isPr_ref ha, Bool.eq_iff_iff]
      simp [eqTh, eqThs, Prod.ext_iff]
    rw [e] at k
    exact k
  · rw [show its.toArray.any (isPr H z) = its.any (isPr H z) by simp, prs_any hp r]
    exact q
end
end L2
set_option maxHeartbeats 4000000
namespace L2
open PySem PySem.Spec PyProof.Rows
section
variable {X : Cx} {e st : Expr} {te ts : TE} {pos p2 : Pos}
end
end L2
set_option maxHeartbeats 4000000
namespace L2
open PySem PySem.Spec PyProof.Rows
section
variable {X : Cx}
theorem op_notB : OpR X (compareOp .IsNot) (fun x y H Q => ∃ c d, x = .bl c ∧ y = .bl d ∧ Q (.bl (c != d)) H) := by
  intro pins s σ H x y v u Q I rx ry h
  obtain ⟨c, d, rfl, rfl, q⟩ := h
  cases rx
  cases ry
  exact isnot_bool ⟨.bl _, H, I, rfl, q⟩
theorem op_catE : OpR X (binaryOp .Add) (fun x y H Q => ∃ a b ys, x = .ref a ∧ y = .ref b ∧ SqT X.K H a [] ∧ SqT X.K H b ys ∧ Q (.ref b) H) := by
  intro pins s σ H x y v u Q I rx ry h
  obtain ⟨a, b, ys, rfl, rfl, ha, hb, q⟩ := h
  cases rx
  cases ry
  obtain ⟨its, r1, p1, _⟩ := I.tuple ha
  obtain ⟨its2, r2, p2, _⟩ := I.tuple hb
  cases r1
  obtain ⟨⟨cls, dd, data, sl⟩, ho, hc, n, hd⟩ := id (show s.heap.IsTuple a ([] : List Value).toArray from p1)
  obtain ⟨⟨cls2, dd2, data2, sl2⟩, ho2, hc2, n2, hd2⟩ := id (show s.heap.IsTuple b its2.toArray from p2)
  simp only at hc hd hc2 hd2
  subst hc hd hc2 hd2
  exact concat_meets ⟨_, ho, rfl⟩ ⟨_, ho2, rfl⟩ noFill_tuple_add seq_tuple_add PySem.F.slot_tuple_add PySem.F.entry_tuple_add (PySem.F.args_tuple_add_2 _ _) (tuple_addW0 a b ([] : List Value).toArray its2.toArray n n2 dd dd2 sl sl2 rfl) ⟨ho, ho2, ⟨.ref b, H, I, rfl, q⟩⟩
theorem op_catU : OpR X (binaryOp .Add) (fun x y H Q => (∃ a b ys, x = .ref a ∧ y = .ref b ∧ SqT X.K H a [] ∧ SqT X.K H b ys ∧ Q (.ref b) H) ∨ rCatT X.K x y H Q) := by
  intro pins s σ H x y v u Q I rx ry h
  rcases h with h | h
  · exact op_catE pins s σ H x y v u Q I rx ry h
  · exact op_catT pins s σ H x y v u Q I rx ry h
end
theorem comp_tupR {K : PySem.W.Frag} {a : Addr} {xs : List V} {te : TE} {st : St} {H1 : Hp} {Q : VK} {D : Addr} (R : Nat → List V → Hp → Prop) (hD : H1 D = none) (q1 : SqT K H1 a xs) (hn : xs.length ≤ sizeLine) (h0 : R 0 [] (upd H1 D (.lst [])))
    (hs : ∀ (i : Nat) (x : V) (ys : List V) (H2 : Hp) (k : VK), xs[i]? = some x → Same H1 H2 → H2 D = some (.lst ys) → R i ys H2 → (∀ y H4, Same H2 H4 → R (i + 1) (ys ++ [y]) (upd H4 D (.lst (ys ++ [y]))) → k y H4) → te (some x :: st) H2 k)
    (hd : ∀ ys H2, Same H1 H2 → H2 D = some (.lst ys) → ys.length = xs.length → R xs.length ys H2 → Q (.ref D) H2) : CompGo (Itt K a) te st D H1 Q := by
  refine ⟨fun i m ys H2 => m = xs.length - i ∧ i ≤ xs.length ∧ ys.length = i ∧ Same H1 H2 ∧ H2 D = some (.lst ys) ∧ R i ys H2, ⟨xs.length, by simp, Nat.zero_le _, rfl, same_upd (Same.refl H1) hD, upd_same, h0⟩, ?_⟩
  rintro i m ys H2 ⟨rfl, hi, hl, sm, e, r⟩
  by_cases hlt : i < xs.length
  · have ex : xs[i]? = some xs[i] := List.getElem?_eq_getElem hlt
    refine .inr ⟨⟨xs, _, sm.tup q1, ex⟩, ?_⟩
    rintro x H3 ⟨rfl, hx⟩
    have hx' := hx xs (sm.tup q1)
    exact hs i x ys _ _ hx' sm e r fun y H4 s4 r4 => ⟨s4 _ _ e, by omega, xs.length - (i + 1), by omega, rfl, hlt, by simp [hl], same_upd (sm.trans s4) hD, upd_same, r4⟩
  · have ei : i = xs.length := by omega
    subst ei
    exact .inl ⟨⟨xs, sm.tup q1, Nat.le_refl _⟩, hd ys H2 sm e hl r⟩
end L2
namespace Gc
theorem gstep {a b : Int} (ha : 0 ≤ a) (hb : 0 ≤ b) (h : b ≠ 0) : Int.gcd b (a % b) = Int.gcd a b := by
  rw [Int.gcd_comm a b]
  unfold Int.gcd
  have e : (a % b).natAbs = a.natAbs % b.natAbs := by
    rw [Int.natAbs_emod_of_nonneg ha]
  rw [e, Nat.gcd_comm b.natAbs (a.natAbs % b.natAbs), ← Nat.gcd_rec]
theorem gend {a : Int} (ha : 0 ≤ a) : (Int.gcd a 0 : Int) = a := by
  rw [Int.gcd_zero_right]; omega
end Gc
namespace Gc
theorem fdiv_mul {g t : Int} (h : g ≠ 0) : (g * t).fdiv g = t := by
  rw [Int.mul_comm]; exact Int.mul_fdiv_cancel _ h
def frD (t b : Int) : Int := if b < 0 then -(Int.gcd t b : Int) else (Int.gcd t b : Int)
def frT (t b : Int) : Int := t.fdiv (frD t b)
def frB (t b : Int) : Int := b.fdiv (frD t b)
theorem gne {t b : Int} (h : b ≠ 0) : Int.gcd t b ≠ 0 := fun e => h (Int.gcd_eq_zero_iff.mp e).2
theorem frD_ne {t b : Int} (h : b ≠ 0) : frD t b ≠ 0 := by
  have := gne (t := t) h
  unfold frD; split <;> omega
theorem fr_split {t b : Int} (h : b ≠ 0) : t = frD t b * frT t b ∧ b = frD t b * frB t b := by
  have hd : (Int.gcd t b : Int) ∣ t := Int.gcd_dvd_left ..
  have hb : (Int.gcd t b : Int) ∣ b := Int.gcd_dvd_right ..
  have hd' : frD t b ∣ t := by unfold frD; split; · exact Int.neg_dvd.mpr hd
                               · exact hd
  have hb' : frD t b ∣ b := by unfold frD; split; · exact Int.neg_dvd.mpr hb
                               · exact hb
  obtain ⟨x, hx⟩ := hd'
  obtain ⟨y, hy⟩ := hb'
  have ne := frD_ne (t := t) h
  generalize hD : frD t b = d at *
  have e1 : frT t b = x := by unfold frT; rw [hD]; conv => lhs; rw [hx]
                              exact fdiv_mul ne
  have e2 : frB t b = y := by unfold frB; rw [hD]; conv => lhs; rw [hy]
                              exact fdiv_mul ne
  rw [e1, e2]; exact ⟨hx, hy⟩
theorem frB_pos {t b : Int} (h : b ≠ 0) : 0 < frB t b := by
  obtain ⟨_, e⟩ := fr_split (t := t) h
  have g := gne (t := t) h
  rcases Int.lt_trichotomy (frB t b) 0 with c | c | c
  · exfalso
    by_cases hb : b < 0
    · have hd : frD t b < 0 := by unfold frD; rw [if_pos hb]; omega
      have := Int.mul_pos_of_neg_of_neg hd c
      omega
    · have hd : 0 < frD t b := by unfold frD; rw [if_neg hb]; omega
      have := Int.mul_neg_of_pos_of_neg hd c
      omega
  · rw [c, Int.mul_zero] at e; exact absurd e h
  · exact c
theorem fr_gcd {t b : Int} (h : b ≠ 0) : Int.gcd (frT t b) (frB t b) = 1 := by
  obtain ⟨e1, e2⟩ := fr_split (t := t) h
  have g := gne (t := t) h
  have k : Int.gcd t b = (frD t b).natAbs * Int.gcd (frT t b) (frB t b) := by
    rw [← Int.gcd_mul_left, ← e1, ← e2]
  have hn : (frD t b).natAbs = Int.gcd t b := by unfold frD; split <;> omega
  rw [hn] at k
  have : Int.gcd t b * 1 = Int.gcd t b * Int.gcd (frT t b) (frB t b) := by rw [Nat.mul_one]; exact k
  exact (Nat.eq_of_mul_eq_mul_left (Nat.pos_of_ne_zero g) this).symm
theorem fr_cross {t b : Int} (h : b ≠ 0) : frT t b * b = t * frB t b := by
  obtain ⟨e1, e2⟩ := fr_split (t := t) h
  generalize frT t b = x at *
  generalize frB t b = y at *
  generalize frD t b = d at *
  subst e1 e2
  rw [Int.mul_left_comm, Int.mul_assoc]
theorem dvd_cop {k m n : Int} (h : k ∣ m * n) (c : Int.gcd k m = 1) : k ∣ n := by
  have h' : k.natAbs ∣ m.natAbs * n.natAbs := by rw [← Int.natAbs_mul]; exact Int.natAbs_dvd_natAbs.mpr h
  exact Int.natAbs_dvd_natAbs.mp (Nat.Coprime.dvd_of_dvd_mul_left c h')
theorem fr_same {a b c d : Int} (hb : 0 < b) (hd : 0 < d) (g1 : Int.gcd a b = 1) (g2 : Int.gcd c d = 1) (e : a * d = c * b) : a = c ∧ b = d := by
  have h1 : b ∣ d := by
    have : b ∣ a * d := ⟨c, by rw [e, Int.mul_comm]⟩
    have k : Int.gcd b a = 1 := by rw [Int.gcd_comm]; exact g1
    exact dvd_cop this k
  have h2 : d ∣ b := by
    have : d ∣ c * b := ⟨a, by rw [← e, Int.mul_comm]⟩
    have k : Int.gcd d c = 1 := by rw [Int.gcd_comm]; exact g2
    exact dvd_cop this k
  have hbd : b = d := Int.dvd_antisymm (by omega) (by omega) h1 h2
  subst hbd
  exact ⟨Int.eq_of_mul_eq_mul_right (by omega) e, rfl⟩
end Gc
namespace Gc
theorem cancel {k x y : Int} (h : k ≠ 0) (e : k * x = k * y) : x = y := Int.eq_of_mul_eq_mul_left h e
theorem fr_is {t b c d : Int} (hb : b ≠ 0) (hd : 0 < d) (g : Int.gcd c d = 1) (e : t * d = c * b) : frT t b = c ∧ frB t b = d := by
  have h := fr_cross (t := t) hb
  refine fr_same (frB_pos hb) hd (fr_gcd hb) g ?_
  refine cancel hb ?_
  generalize frT t b = x at *
  generalize frB t b = y at *
  grind
def Sz (n : Nat) (i : Int) : Prop := i.natAbs < 2 ^ n
theorem Sz.mono {m n : Nat} {i : Int} (h : Sz m i) (hn : m ≤ n) : Sz n i := Nat.lt_of_lt_of_le h (Nat.pow_le_pow_right (by decide) hn)
theorem Sz.mul {m n : Nat} {i j : Int} (h1 : Sz m i) (h2 : Sz n j) : Sz (m + n) (i * j) := by
  unfold Sz at *
  rw [Int.natAbs_mul, Nat.pow_add]
  exact Nat.mul_lt_mul'' h1 h2
theorem Sz.sub {n : Nat} {i j : Int} (h1 : Sz n i) (h2 : Sz n j) : Sz (n + 1) (i - j) := by
  unfold Sz at *
  rw [Nat.pow_succ]; omega
theorem Sz.fr {n m : Nat} {a b : Int} (h : b ≠ 0) (sa : Sz n a) (sb : Sz m b) : Sz n (frT a b) ∧ Sz m (frB a b) := by
  obtain ⟨e1, e2⟩ := fr_split (t := a) h
  have nd := frD_ne (t := a) h
  have h1 : (frT a b).natAbs ≤ a.natAbs := by
    have : a.natAbs = (frD a b).natAbs * (frT a b).natAbs := by rw [← Int.natAbs_mul, ← e1]
    rw [this]; exact Nat.le_mul_of_pos_left _ (by omega)
  have h2 : (frB a b).natAbs ≤ b.natAbs := by
    have : b.natAbs = (frD a b).natAbs * (frB a b).natAbs := by rw [← Int.natAbs_mul, ← e2]
    rw [this]; exact Nat.le_mul_of_pos_left _ (by omega)
  exact ⟨Nat.lt_of_le_of_lt h1 sa, Nat.lt_of_le_of_lt h2 sb⟩
structure FrOK (a b : Int) : Prop where
  pos : 0 < b
  low : Int.gcd a b = 1
  s1 : Sz 200 a
  s2 : Sz 200 b
theorem FrOK.of {a b : Int} (h : 0 < b) (sa : Sz 200 a) (sb : Sz 200 b) : FrOK (frT a b) (frB a b) :=
  have z := Sz.fr (by omega) sa sb
  ⟨frB_pos (by omega), fr_gcd (by omega), z.1, z.2⟩
theorem frD_pos {a b : Int} (h : 0 < b) : frD a b = Int.gcd a b := if_neg (by omega)
end Gc
namespace Ch
def binom : Nat → Nat → Nat
  | _, 0 => 1
  | 0, _ + 1 => 0
  | n + 1, k + 1 => binom n k + binom n (k + 1)
theorem b0 (n : Nat) : binom n 0 = 1 := by cases n <;> rfl
theorem bs (n k : Nat) : binom (n + 1) (k + 1) = binom n k + binom n (k + 1) := rfl
theorem blt : ∀ {n k : Nat}, n < k → binom n k = 0
  | 0, k + 1, _ => rfl
  | n + 1, k + 1, h => by rw [bs, blt (by omega : n < k), blt (by omega : n < k + 1)]
def bits (b : Nat) : Nat → Nat
  | 0 => 0
  | j + 1 => bits b j + b / 2 ^ j % 2
end Ch
namespace Gc
open Ch
theorem rle {a b c : Rat} (h : a ≤ b) (hc : 0 ≤ c) : c * a ≤ c * b := Rat.mul_le_mul_of_nonneg_left h hc
def sm (f : Nat → Rat) : Nat → Rat
  | 0 => 0
  | m + 1 => sm f m + f m
end Gc
namespace Gc
open Ch
def Cvx (G : Nat → Rat) : Prop := ∀ k, G (k + 1) - G k ≤ G (k + 2) - G (k + 1)
theorem Cvx.steps {G : Nat → Rat} (h : Cvx G) (a : Nat) : ∀ e, G (a + 1) - G a ≤ G (a + e + 1) - G (a + e)
  | 0 => Rat.le_refl
  | e + 1 => by
      have := h.steps a e
      have s := h (a + e)
      have e1 : a + (e + 1) = a + e + 1 := by omega
      have e2 : a + (e + 1) + 1 = a + e + 2 := by omega
      rw [e2, e1]; grind
theorem Cvx.up {G : Nat → Rat} (h : Cvx G) (a : Nat) : ∀ e : Nat, (e : Rat) * (G (a + 1) - G a) ≤ G (a + e) - G a
  | 0 => by have : a + 0 = a := rfl
            rw [this]; push_cast; grind
  | e + 1 => by
      have i := h.up a e
      have s := h.steps a e
      have e1 : a + (e + 1) = a + e + 1 := by omega
      rw [e1]; push_cast; grind
theorem pos_of {e x : Rat} (he : 0 < e) (h : 0 < e * x) : 0 < x := by
  by_cases hx : 0 < x
  · exact hx
  · have := rle (show x ≤ 0 by grind) (show 0 ≤ e by grind); grind
theorem nonneg_of {e x : Rat} (he : 0 < e) (h : 0 ≤ e * x) : 0 ≤ x := by
  by_cases hx : 0 ≤ x
  · exact hx
  · have := Rat.mul_pos he (show 0 < -x by grind); grind
end Gc
namespace Gc
open Ch
theorem rden (r : Rat) : (0 : Int) < (r.den : Int) := by have := r.den_nz; omega
theorem rgcd (r : Rat) : Int.gcd r.num (r.den : Int) = 1 := by
  have := r.reduced
  rw [Int.gcd]; simpa [Nat.Coprime] using this
theorem rdenQ (r : Rat) : (r.den : Rat) ≠ 0 := by
  have := r.den_nz
  intro h; exact this (by exact_mod_cast h)
theorem rsplit (r : Rat) : r * (r.den : Rat) = (r.num : Rat) := by
  have h := Rat.mkRat_self r
  rw [Rat.mkRat_eq_div] at h
  have d := rdenQ r
  generalize (r.num : Rat) = x at *
  generalize (r.den : Rat) = y at *
  grind
theorem fr_rat {t b : Int} (h : b ≠ 0) {r : Rat} (e : r * (b : Rat) = (t : Rat)) : frT t b = r.num ∧ frB t b = (r.den : Int) := by
  refine fr_is h (rden r) (rgcd r) ?_
  have s := rsplit r
  have : ((t * (r.den : Int) : Int) : Rat) = ((r.num * b : Int) : Rat) := by push_cast; rw [← e, ← s]; grind
  exact_mod_cast this
theorem castlt {a b : Int} : ((a : Rat) < (b : Rat)) ↔ a < b := Rat.intCast_lt_intCast
theorem r_under (r s : Rat) : r.num * (s.den : Int) < s.num * (r.den : Int) ↔ r < s := by
  have a := rsplit r; have b := rsplit s
  have dr : (0 : Rat) < (r.den : Rat) := by exact_mod_cast (show 0 < r.den by have := r.den_nz; omega)
  have ds : (0 : Rat) < (s.den : Rat) := by exact_mod_cast (show 0 < s.den by have := s.den_nz; omega)
  have p := Rat.mul_pos dr ds
  rw [← castlt]; push_cast; rw [← a, ← b]
  constructor
  · intro h
    have := pos_of p (x := s - r) (by grind); grind
  · intro h
    have := Rat.mul_pos p (show 0 < s - r by grind); grind
theorem r_same {r s : Rat} (h1 : r.num = s.num) (h2 : (r.den : Int) = (s.den : Int)) : r = s := by
  apply Rat.ext h1; exact_mod_cast h2
theorem r_nonneg (r : Rat) : 0 ≤ r.num ↔ 0 ≤ r := Rat.num_nonneg
theorem r_le1 (r : Rat) : r.num ≤ (r.den : Int) ↔ r ≤ 1 := by
  have := r_under 1 r
  have e1 : (1 : Rat).num = 1 := rfl
  have e2 : ((1 : Rat).den : Int) = 1 := rfl
  rw [e1, e2] at this
  constructor
  · intro h
    by_cases c : 1 < r
    · exact absurd (this.mpr c) (by omega)
    · grind
  · intro h
    by_cases c : 1 * (r.den : Int) < r.num * 1
    · have := this.mp c; grind
    · omega
def rq (t b : Int) : Rat := (t : Rat) / (b : Rat)
def Ov (B : Nat) (r : Rat) : Prop := ∃ m : Int, r * (B : Rat) = (m : Rat)
theorem Ov.dvd {B : Nat} {r : Rat} (h : Ov B r) : r.den ∣ B := by
  obtain ⟨m, hm⟩ := h
  have s := rsplit r
  have : ((r.num * (B : Int) : Int) : Rat) = ((m * (r.den : Int) : Int) : Rat) := by push_cast; rw [← hm, ← s]; grind
  have e : r.num * (B : Int) = m * (r.den : Int) := by exact_mod_cast this
  have d : (r.den : Int) ∣ (B : Int) := dvd_cop (k := (r.den : Int)) (m := r.num) ⟨m, by rw [e]; exact Int.mul_comm _ _⟩ (by rw [Int.gcd_comm]; exact rgcd r)
  exact_mod_cast d
theorem Ov.self (r : Rat) : Ov r.den r := ⟨r.num, rsplit r⟩
theorem Ov.sub {B : Nat} {r s : Rat} (h : Ov B r) (k : Ov B s) : Ov B (r - s) := by
  obtain ⟨a, ha⟩ := h; obtain ⟨b, hb⟩ := k
  exact ⟨a - b, by push_cast; rw [← ha, ← hb]; grind⟩
theorem Ov.mul {A B : Nat} {r s : Rat} (h : Ov A r) (k : Ov B s) : Ov (A * B) (r * s) := by
  obtain ⟨a, ha⟩ := h; obtain ⟨b, hb⟩ := k
  exact ⟨a * b, by push_cast; rw [← ha, ← hb]; grind⟩
theorem Ov.up {A B : Nat} {r : Rat} (h : Ov A r) (k : A ∣ B) : Ov B r := by
  obtain ⟨c, rfl⟩ := k
  obtain ⟨a, ha⟩ := h
  exact ⟨a * c, by push_cast; rw [← ha]; grind⟩
theorem Ov.pow {B : Nat} {r : Rat} (h : Ov B r) : ∀ n : Nat, Ov (B ^ n) (r ^ n)
  | 0 => ⟨1, by simp⟩
  | n + 1 => by rw [Rat.pow_succ, Nat.pow_succ]; exact (h.pow n).mul h
theorem Ov.one (B : Nat) : Ov B 1 := ⟨(B : Int), by push_cast; grind⟩
structure RSz (n : Nat) (r : Rat) : Prop where
  t : Sz n r.num
  b : Sz n (r.den : Int)
theorem RSz.of {n B : Nat} {r : Rat} (h : Ov B r) (hB : 0 < B) (hn : B < 2 ^ n) (h0 : 0 ≤ r) (h1 : r ≤ 1) : RSz n r := by
  have a := (r_nonneg r).mpr h0
  have b := (r_le1 r).mpr h1
  have c := Nat.le_of_dvd hB h.dvd
  constructor <;> (unfold Sz; omega)
end Gc
namespace Gc
open Ch
theorem sz_le {m : Nat} {a b : Int} (h0 : 0 ≤ a) (h1 : a ≤ b) (sb : Sz m b) : Sz m a := by unfold Sz at *; omega
end Gc
namespace Gc
open Ch
end Gc
namespace Gc
def lower (r : Rat) : List Rat → Nat
  | [] => 0
  | x :: xs => if x < r then lower r xs + 1 else 0
def insR (r : Rat) (l : List Rat) : List Rat := l.take (lower r l) ++ r :: l.drop (lower r l)
def srt : List Rat → List Rat := List.foldl (fun acc r => insR r acc) []
theorem lower_le (r : Rat) : ∀ l : List Rat, lower r l ≤ l.length
  | [] => Nat.le_refl _
  | x :: xs => by
    have := lower_le r xs
    rw [lower]; split <;> (simp only [List.length_cons]; omega)
theorem lower_lt {r : Rat} : ∀ {l : List Rat} {i : Nat} {x : Rat}, i < lower r l → l[i]? = some x → x < r
  | y :: ys, 0, x, h, e => by
    rw [List.getElem?_cons_zero] at e; cases e
    rw [lower] at h
    by_cases c : y < r
    · exact c
    · rw [if_neg c] at h; omega
  | y :: ys, i + 1, x, h, e => by
    rw [List.getElem?_cons_succ] at e
    rw [lower] at h
    by_cases c : y < r
    · rw [if_pos c] at h; exact lower_lt (by omega) e
    · rw [if_neg c] at h; omega
theorem lower_at {r : Rat} : ∀ {l : List Rat} {x : Rat}, l[lower r l]? = some x → ¬ x < r
  | y :: ys, x, e => by
    rw [lower] at e
    by_cases c : y < r
    · rw [if_pos c, List.getElem?_cons_succ] at e; exact lower_at e
    · rw [if_neg c, List.getElem?_cons_zero] at e; cases e; exact c
theorem lower_is {r : Rat} {l : List Rat} {i : Nat} (hi : i ≤ lower r l) (h : i = l.length ∨ ∃ x, l[i]? = some x ∧ ¬ x < r) : i = lower r l := by
  rcases h with h | ⟨x, e, n⟩
  · have := lower_le r l; omega
  · by_cases z : i < lower r l
    · exact absurd (lower_lt z e) n
    · omega
theorem insR_len (r : Rat) (l : List Rat) : (insR r l).length = l.length + 1 := by
  have := lower_le r l
  unfold insR; simp; omega
theorem insR_mem {r x : Rat} {l : List Rat} : x ∈ insR r l ↔ x = r ∨ x ∈ l := by
  have := List.take_append_drop (lower r l) l
  unfold insR
  constructor
  · intro h
    rcases List.mem_append.mp h with h | h
    · exact .inr (List.mem_of_mem_take h)
    · rcases List.mem_cons.mp h with h | h
      · exact .inl h
      · exact .inr (List.mem_of_mem_drop h)
  · rintro (h | h)
    · subst h; simp
    · rw [← this] at h
      rcases List.mem_append.mp h with h | h
      · exact List.mem_append.mpr (.inl h)
      · exact List.mem_append.mpr (.inr (List.mem_cons_of_mem _ h))
abbrev Up (l : List Rat) : Prop := l.Pairwise (· ≤ ·)
theorem Up.at {l : List Rat} (h : Up l) {i j : Nat} {x y : Rat} (hij : i ≤ j) (ex : l[i]? = some x) (ey : l[j]? = some y) : x ≤ y := by
  by_cases e : i = j
  · subst e; rw [ex] at ey; cases ey; exact Rat.le_refl
  · obtain ⟨hi, rfl⟩ := List.getElem?_eq_some_iff.mp ex
    obtain ⟨hj, rfl⟩ := List.getElem?_eq_some_iff.mp ey
    exact List.pairwise_iff_getElem.mp h i j hi hj (by omega)
theorem insR_up {r : Rat} {l : List Rat} (h : Up l) : Up (insR r l) := by
  unfold insR Up
  refine List.pairwise_append.mpr ⟨h.sublist (List.take_sublist _ _), List.pairwise_cons.mpr ⟨fun y hy => ?_, h.sublist (List.drop_sublist _ _)⟩, fun x hx y hy => ?_⟩
  · obtain ⟨j, hj⟩ := List.mem_iff_getElem?.mp hy
    rw [List.getElem?_drop] at hj
    have hlt : lower r l < l.length := by
      obtain ⟨hk, _⟩ := List.getElem?_eq_some_iff.mp hj; omega
    have e0 := List.getElem?_eq_getElem hlt
    have n := lower_at e0
    have := h.at (show lower r l ≤ lower r l + j by omega) e0 hj
    grind
  · obtain ⟨i, hi⟩ := List.mem_iff_getElem?.mp hx
    rw [List.getElem?_take] at hi
    by_cases c : i < lower r l
    · rw [if_pos c] at hi
      have xr := lower_lt c hi
      rcases List.mem_cons.mp hy with e | hy
      · subst e; grind
      · obtain ⟨j, hj⟩ := List.mem_iff_getElem?.mp hy
        rw [List.getElem?_drop] at hj
        exact h.at (by omega) hi hj
    · rw [if_neg c] at hi; cases hi
theorem srt_snoc (l : List Rat) (r : Rat) : srt (l ++ [r]) = insR r (srt l) := by unfold srt; rw [List.foldl_append]; rfl
theorem srt_up : ∀ (n : Nat) (l : List Rat), l.length = n → Up (srt l) ∧ (srt l).length = n ∧ ∀ x, x ∈ srt l ↔ x ∈ l
  | 0, l, h => by
    have : l = [] := List.length_eq_zero_iff.mp h
    subst this
    exact ⟨List.Pairwise.nil, rfl, fun x => Iff.rfl⟩
  | n + 1, l, h => by
    obtain ⟨l', r, rfl⟩ : ∃ l' r, l = l' ++ [r] := by
      cases e : l.reverse with
      | nil =>
        have : l = [] := List.reverse_eq_nil_iff.mp e
        subst this; cases h
      | cons r t => exact ⟨t.reverse, r, by rw [← List.reverse_reverse l, e]; simp⟩
    have hl : l'.length = n := by simpa using h
    obtain ⟨a, b, c⟩ := srt_up n l' hl
    rw [srt_snoc]
    refine ⟨insR_up a, by rw [insR_len, b], fun x => ?_⟩
    rw [insR_mem, c x]
    simp [or_comm]
end Gc
namespace Gc
def upto (p : Rat) : List Rat → Nat
  | [] => 0
  | x :: xs => if x ≤ p then upto p xs + 1 else 0
theorem upto_len (p : Rat) : ∀ l : List Rat, upto p l ≤ l.length
  | [] => Nat.le_refl _
  | x :: xs => by
    have := upto_len p xs
    rw [upto]; split <;> (simp only [List.length_cons]; omega)
theorem upto_lt {p : Rat} : ∀ {l : List Rat} {i : Nat} {x : Rat}, i < upto p l → l[i]? = some x → x ≤ p
  | y :: ys, 0, x, h, e => by
    rw [List.getElem?_cons_zero] at e; cases e
    rw [upto] at h
    by_cases c : y ≤ p
    · exact c
    · rw [if_neg c] at h; omega
  | y :: ys, i + 1, x, h, e => by
    rw [List.getElem?_cons_succ] at e
    rw [upto] at h
    by_cases c : y ≤ p
    · rw [if_pos c] at h; exact upto_lt (by omega) e
    · rw [if_neg c] at h; omega
theorem upto_at {p : Rat} : ∀ {l : List Rat} {x : Rat}, l[upto p l]? = some x → ¬ x ≤ p
  | y :: ys, x, e => by
    rw [upto] at e
    by_cases c : y ≤ p
    · rw [if_pos c, List.getElem?_cons_succ] at e; exact upto_at e
    · rw [if_neg c, List.getElem?_cons_zero] at e; cases e; exact c
theorem upto_iff {p : Rat} {l : List Rat} (u : Up l) {i : Nat} {x : Rat} (e : l[i]? = some x) : i < upto p l ↔ x ≤ p := by
  constructor
  · exact fun h => upto_lt h e
  · intro h
    by_cases c : i < upto p l
    · exact c
    · exfalso
      have hi : i < l.length := (List.getElem?_eq_some_iff.mp e).1
      have hu : upto p l < l.length := by omega
      have e0 := List.getElem?_eq_getElem hu
      have := u.at (show upto p l ≤ i by omega) e0 e
      exact upto_at e0 (by grind)
theorem lower_iff {p : Rat} {l : List Rat} (u : Up l) {i : Nat} {x : Rat} (e : l[i]? = some x) : i < lower p l ↔ x < p := by
  constructor
  · exact fun h => lower_lt h e
  · intro h
    by_cases c : i < lower p l
    · exact c
    · exfalso
      have hi : i < l.length := (List.getElem?_eq_some_iff.mp e).1
      have hu : lower p l < l.length := by omega
      have e0 := List.getElem?_eq_getElem hu
      have := u.at (show lower p l ≤ i by omega) e0 e
      exact lower_at e0 (by grind)
end Gc
namespace Gc
end Gc
namespace Gc
theorem upto_cnt {r : Rat} : ∀ {l : List Rat}, Up l → (l.filter fun x => decide (x ≤ r)).length = upto r l
  | [], _ => rfl
  | x :: xs, u => by
    obtain ⟨h1, h2⟩ := List.pairwise_cons.mp u
    rw [upto]
    by_cases c : x ≤ r
    · rw [if_pos c, List.filter_cons_of_pos (by simpa using c), List.length_cons, upto_cnt h2]
    · rw [if_neg c, List.filter_cons_of_neg (by simpa using c)]
      have : (xs.filter fun x => decide (x ≤ r)) = [] := List.filter_eq_nil_iff.mpr fun y hy => by
        have := h1 y hy
        simp; grind
      rw [this]; rfl
end Gc
namespace Gc
abbrev Inc (l : List Rat) : Prop := l.Pairwise (· < ·)
theorem Inc.up {l : List Rat} (h : Inc l) : Up l := List.Pairwise.imp (fun h => by grind) h
def addE (acc : List Rat) (r : Rat) : List Rat := if r ∈ acc then acc else insR r acc
def edg (l : List Rat) : List Rat := l.foldl addE []
theorem edg_snoc (l : List Rat) (r : Rat) : edg (l ++ [r]) = addE (edg l) r := by unfold edg; rw [List.foldl_append]; rfl
theorem insR_inc {r : Rat} {l : List Rat} (h : Inc l) (hr : r ∉ l) : Inc (insR r l) := by
  unfold insR
  have hu := h.up
  refine List.pairwise_append.mpr ⟨h.sublist (List.take_sublist _ _), List.pairwise_cons.mpr ⟨?_, h.sublist (List.drop_sublist _ _)⟩, ?_⟩
  · intro x hx
    obtain ⟨i, hi⟩ := List.mem_iff_getElem?.mp hx
    rw [List.getElem?_drop] at hi
    have h1 : ¬ x < r := fun c => by
      have := (lower_iff hu hi (p := r)).mpr c
      omega
    have h2 : x ≠ r := fun e => hr (e ▸ List.mem_of_getElem? hi)
    grind
  · intro x hx y hy
    obtain ⟨i, hi⟩ := List.mem_iff_getElem?.mp hx
    have hil : i < lower r l := by
      have := (List.getElem?_eq_some_iff.mp hi).1
      simp at this
      omega
    rw [List.getElem?_take_of_lt hil] at hi
    have hxr := lower_lt hil hi
    rcases List.mem_cons.mp hy with rfl | hy
    · exact hxr
    · obtain ⟨j, hj⟩ := List.mem_iff_getElem?.mp hy
      rw [List.getElem?_drop] at hj
      have h1 : ¬ y < r := fun c => by
        have := (lower_iff hu hj (p := r)).mpr c
        omega
      grind
theorem addE_inc {r : Rat} {l : List Rat} (h : Inc l) : Inc (addE l r) := by
  unfold addE
  split
  · exact h
  · exact insR_inc h ‹_›
theorem addE_mem {r x : Rat} {l : List Rat} : x ∈ addE l r ↔ x = r ∨ x ∈ l := by
  unfold addE
  split
  · constructor
    · exact .inr
    · rintro (rfl | h)
      · assumption
      · exact h
  · exact insR_mem
theorem edg_ok (l : List Rat) : Inc (edg l) ∧ ∀ x, x ∈ edg l ↔ x ∈ l := by
  have : ∀ (n : Nat) (l : List Rat), l.length = n → Inc (edg l) ∧ ∀ x, x ∈ edg l ↔ x ∈ l := by
    intro n
    induction n with
    | zero =>
      intro l hl
      have : l = [] := List.eq_nil_of_length_eq_zero hl
      subst this
      exact ⟨List.Pairwise.nil, fun x => Iff.rfl⟩
    | succ n ih =>
      intro l hl
      rcases List.eq_nil_or_concat l with e | ⟨l', r, e⟩
      · rw [e] at hl; simp at hl
      · rw [List.concat_eq_append] at e
        subst e
        obtain ⟨i1, i2⟩ := ih l' (by simp at hl; exact hl)
        rw [edg_snoc]
        refine ⟨addE_inc i1, fun x => ?_⟩
        rw [addE_mem, i2, List.mem_append, List.mem_singleton]
        constructor
        · rintro (h | h)
          · exact .inr h
          · exact .inl h
        · rintro (h | h)
          · exact .inr h
          · exact .inl h
  exact this _ l rfl
theorem addE_len (l : List Rat) (r : Rat) : (addE l r).length ≤ l.length + 1 := by
  unfold addE
  split
  · omega
  · rw [insR_len]; omega
theorem edg_len (l : List Rat) : (edg l).length ≤ l.length := by
  have : ∀ (n : Nat) (l : List Rat), l.length = n → (edg l).length ≤ n := by
    intro n
    induction n with
    | zero =>
      intro l hl
      have : l = [] := List.eq_nil_of_length_eq_zero hl
      subst this
      exact Nat.le_refl _
    | succ n ih =>
      intro l hl
      rcases List.eq_nil_or_concat l with e | ⟨l', r, e⟩
      · rw [e] at hl; simp at hl
      · rw [List.concat_eq_append] at e
        subst e
        have := ih l' (by simp at hl; exact hl)
        have := addE_len (edg l') r
        rw [edg_snoc]
        omega
  exact this _ l rfl
end Gc
set_option maxHeartbeats 4000000
namespace K15
open PySem L2 Gc Ch
seal wpAny
def top (i : Nat) : Stmt := PySem.Challenge.pw_surestretch_k15_rules_within_others.main.body.getD i (.Pass ⟨0, 0, 0, 0⟩)
abbrev s_und : Stmt := top 1
abbrev s_held : Stmt := top 3
abbrev s_rov : Stmt := top 4
abbrev s_edges : Stmt := top 5
abbrev s_with : Stmt := top 6
abbrev s_cell : Stmt := top 8
abbrev s_div : Stmt := top 9
abbrev s_low : Stmt := top 10
abbrev s_shk : Stmt := top 11
abbrev s_less : Stmt := top 12
abbrev s_srt : Stmt := top 13
abbrev s_rule : Stmt := top 14
abbrev s_isr : Stmt := top 15
abbrev s_due : Stmt := top 17
abbrev s_mov : Stmt := top 16
abbrev s_pair : Stmt := top 18
abbrev s_law : Stmt := top 19
structure Txt (mg : Str → Option Value) : Prop where
  range : mg "range" = none
  len : mg "len" = none
  isinstance : mg "isinstance" = none
  int : mg "int" = none
  bool : mg "bool" = none
  tuple : mg "tuple" = none
  all : mg "all" = none
  zip : mg "zip" = none
  list : mg "list" = none
structure CA where
structure CF (K : PySem.W.Frag) (mg : Str → Option Value) (C : CA) : Prop where
theorem at0 {x : V} {xs : List V} : atI (x :: xs) 0 = some x := atI_nat (xs := x :: xs) (j := 0) rfl
theorem at1 {x y : V} {xs : List V} : atI (x :: y :: xs) 1 = some y := atI_nat (xs := x :: y :: xs) (j := 1) rfl
theorem getD_mem {α : Type} {l : List α} {i : Nat} {d : α} (h : i < l.length) : l.getD i d ∈ l := by rw [getD_in h]; exact List.getElem_mem h
theorem den_p {H : Hp} {p : Addr} {a b : Int} (h : H p = some (.tup [.int a, .int b])) : Den H (.tup [.int a, .int b]) (.ref p) := ⟨p, _, rfl, h, _, _, rfl, rfl, _, _, rfl, rfl, rfl⟩
theorem den2 {H : Hp} {p : Addr} {x y : V} {a b : Th} (h : H p = some (.tup [x, y])) (d1 : Den H a x) (d2 : Den H b y) : Den H (.tup [a, b]) (.ref p) := ⟨p, _, rfl, h, _, _, rfl, d1, _, _, rfl, d2, rfl⟩
theorem bg_getD {ns : List Int} (h : ∀ i ∈ ns, Bg i) (k : Nat) : Bg (ns.getD k 0) := by
  by_cases hk : k < ns.length
  · exact h _ (getD_mem hk)
  · rw [getD_out (by omega)]; exact Bg.zero
theorem _root_.Gc.Sz.smk {n : Nat} {i : Int} (h : Sz n i) (hn : n ≤ 8900) : Smk i := h.mono hn
section
variable {P : Program} {w : World} {K : PySem.W.Frag} {mg : Str → Option Value} {base : Heap}
theorem smk_frD {a b : Int} (h : b ≠ 0) (sb : Smk b) : Smk (frD a b) := by
  have h1 : (frD a b).natAbs = Int.gcd a b := by unfold frD; split <;> omega
  have h2 : Int.gcd a b ≤ b.natAbs := Nat.le_of_dvd (by omega) (Nat.gcd_dvd_right ..)
  exact Nat.lt_of_le_of_lt (by rw [h1]; exact h2) sb
def mu2 (σ : St) : Nat := match σ with
  | _ :: some (.int y) :: _ => y.toNat
  | _ => 0
def spDivn : Sp := fun vs H Q _ => ∃ a b : Int, vs = [.int a, .int b] ∧ 0 ≤ a ∧ 0 ≤ b ∧ Q (.int (Int.gcd a b)) H
theorem sc_div : FnScope ["_law_one", "_law_other"] ["_law_one", "_law_other"] (defScope s_div) := ⟨rfl, rfl, rfl, by decide +kernel, rfl, by decide +kernel, by decide +kernel⟩
theorem ok_div {f : Addr} {fd : FuncData} (F : Fun K "_law_divides" "_law_divides" s_div f fd) (T : Txt mg) : FnOk P w K mg base CX0 1 f fd ["_law_one", "_law_other"] spDivn := by
  refine F.ok sc_div (fun vs H Q E h => ?_) (fun cdv A outer s H vs Q E hr h => ?_)
  · obtain ⟨a, b, rfl, _⟩ := h
    rfl
  obtain ⟨a, b, rfl, ha, hb, q⟩ := h
  refine ⟨_, (pss_cons (ps_while PassesOwn.never (pt_cmpR op_ne (pv 1) pe_int (nomark _)) (pss_one (ps_par (i := 0) (j := 1) rfl sc_div.nd rfl rfl (by decide) rfl rfl (pa_cons (pv 1) (pa_cons (pe_op op_mod (pv 0) (pv 1)) pa_nil)) rfl)))
    (pss_one (ps_ret (pv 0)))), ?_⟩
  refine while_by (fun σ H' => H' = H ∧ ∃ x y, σ = [some (.int x), some (.int y)] ∧ 0 ≤ x ∧ 0 ≤ y ∧ Int.gcd x y = Int.gcd a b) (fun σ _ => mu2 σ) ⟨rfl, _, _, rfl, ha, hb, rfl⟩ ?_ ?_
  · rintro σ H' ⟨rfl, x, y, rfl, hx, hy, g⟩
    refine ⟨_, rfl, rfl, _, rfl, ?_⟩
    refine ite2 (fun c => ?_) (fun c => ?_)
    · have c' : y ≠ 0 := by rintro rfl; exact absurd c (by decide)
      have hm := Int.emod_nonneg x c'
      have hl := Int.emod_lt_of_pos x (show 0 < y by omega)
      refine ⟨_, rfl, _, rfl, _, rfl, _, _, rfl, rfl, (by show 0 < y; omega), _, _, rfl, ?_⟩
      refine ⟨⟨rfl, y, x % y, rfl, hy, hm, by rw [gstep hx hy c']; exact g⟩, ?_⟩
      show (x % y).toNat < y.toNat
      omega
    · have c' : y = 0 := by
        by_cases z : y = 0
        · exact z
        · exact absurd (show (!decide (V.int y = V.int 0)) = true by rw [decide_eq_false (fun w => z (by injection w))]; rfl) c
      subst c'
      refine ⟨_, rfl, ?_⟩
      rw [← g, gend hx] at q
      exact q
  · intro σ H Q Q' hq h
    obtain ⟨v, e, h1, k, e2, h2⟩ := h
    exact ⟨v, e, h1, k, e2, hq _ _ h2⟩
def spCell (K : PySem.W.Frag) : Sp := fun vs H Q _ => ∃ (a : Addr) (ns : List Int) (k : Int), vs = [.ref a, .int k] ∧ SqL K H a (ns.map V.int) ∧ 0 ≤ k ∧ Q (.int (ns.getD k.toNat 0)) H
theorem sc_cell : FnScope ["_law_script", "_law_k"] ["_law_script", "_law_k"] (defScope s_cell) := ⟨rfl, rfl, rfl, by decide +kernel, rfl, by decide +kernel, by decide +kernel⟩
theorem ok_cell {f : Addr} {fd : FuncData} (F : Fun K "_law_cell_at" "_law_cell_at" s_cell f fd) (T : Txt mg) : FnOk P w K mg base CX0 1 f fd ["_law_script", "_law_k"] (spCell K) := by
  refine F.ok sc_cell (fun vs H Q E h => ?_) (fun cdv A outer s H vs Q E hr h => ?_)
  · obtain ⟨a, ns, k, rfl, _⟩ := h
    rfl
  obtain ⟨a, ns, k, rfl, hS, h0, q⟩ := h
  refine ⟨_, (pss_cons (ps_if (pt_cmpR op_lt (pv 1) (pe_callB call_len_seq rfl T.len boot_len (pa_cons (pv 0) pa_nil)) (nomark _)) (pss_one (ps_ret (pe_ix ix_list (pv 0) (pv 1) (fun _ _ => rfl)))) pss_nil)
    (pss_one (ps_ret pe_int))), ?_⟩
  have hl : (ns.map V.int).length = ns.length := List.length_map _
  refine ⟨_, rfl, _, rfl, a, _, rfl, .inl hS, _, _, rfl, rfl, _, rfl, ?_⟩
  refine ite2 (fun c => ?_) (fun c => ?_)
  · have c' : k < (((ns.map V.int).length : Nat) : Int) := of_decide_eq_true c
    rw [hl] at c'
    exact ⟨_, rfl, _, rfl, a, _, k, _, rfl, rfl, hS, at_getD h0 c', q⟩
  · have c' := ofD c
    rw [hl] at c'
    rw [getD_out (by omega)] at q
    exact q
structure FrA (H : Hp) (f : Addr) (r : Rat) : Prop where
  ob : H f = some (.tup [.int r.num, .int (r.den : Int)])
  st : Sz 4400 r.num
  sb : Sz 4400 (r.den : Int)
theorem FrA.keep {H H' : Hp} {f : Addr} {r : Rat} (h : FrA H f r) (s : Same H H') : FrA H' f r := ⟨s _ _ h.ob, h.st, h.sb⟩
structure Shp (H : Hp) (a : Addr) (p : Rat) : Prop where
  ob : H a = some (.tup [.int p.num, .int (p.den : Int)])
  lo : 0 ≤ p
  hi : p ≤ 1
  sz : Sz 256 (p.den : Int)
theorem Shp.keep {H H' : Hp} {a : Addr} {p : Rat} (h : Shp H a p) (s : Same H H') : Shp H' a p := ⟨s _ _ h.ob, h.lo, h.hi, h.sz⟩
theorem shp_of {H : Hp} {a : Addr} {t b : Int} (h0 : 0 ≤ t) (h1 : t ≤ b) (hb : 0 < b) (sb : Sz 256 b) (e : H a = some (.tup [.int (t.fdiv (Int.gcd t b : Int)), .int (b.fdiv (Int.gcd t b : Int))])) : Shp H a (rq t b) := by
  have hq : (b : Rat) ≠ 0 := by intro e; have : b = 0 := by exact_mod_cast e
                                omega
  have er : rq t b * (b : Rat) = (t : Rat) := by unfold rq; grind
  obtain ⟨f1, f2⟩ := fr_rat (Int.ne_of_gt hb) er
  have sz := (Sz.fr (Int.ne_of_gt hb) (sz_le h0 h1 sb) sb).2
  unfold frT at f1
  unfold frB at f2 sz
  rw [frD_pos hb] at f1 f2 sz
  have s := rsplit (rq t b)
  have bp : (0 : Rat) < (b : Rat) := by exact_mod_cast hb
  refine ⟨by rw [e, f1, f2], ?_, ?_, by rw [← f2]; exact sz⟩
  · refine nonneg_of bp ?_
    have : (0 : Rat) ≤ (t : Rat) := by exact_mod_cast h0
    grind
  · have : (t : Rat) ≤ (b : Rat) := by exact_mod_cast h1
    have := nonneg_of bp (x := 1 - rq t b) (by grind)
    grind
def ShareN (m : Nat) (H : Hp) (Q : VK) : Prop := ∀ a H' p, Same H H' → Shp H' a p → Sz m (p.den : Int) → Q (.ref a) H'
theorem shp_sz {m : Nat} {t b : Int} (h0 : 0 ≤ t) (h1 : t ≤ b) (hb : 0 < b) (sb : Sz m b) : Sz m ((rq t b).den : Int) := by
  have hq : (b : Rat) ≠ 0 := by intro e; have : b = 0 := by exact_mod_cast e
                                omega
  have er : rq t b * (b : Rat) = (t : Rat) := by unfold rq; grind
  obtain ⟨f1, f2⟩ := fr_rat (Int.ne_of_gt hb) er
  rw [← f2]
  exact (Sz.fr (Int.ne_of_gt hb) (sz_le h0 h1 sb) sb).2
theorem by_ready {t b : Int} (hb : 0 < b) (sb : Sz 256 b) : (Int.gcd t b : Int) ≠ 0 ∧ Smk (Int.gcd t b : Int) := by
  have e := frD_pos (a := t) hb
  have h1 := frD_ne (t := t) (b := b) (by omega)
  have h2 := smk_frD (a := t) (b := b) (by omega) (sb.smk (by decide))
  rw [e] at h1 h2
  exact ⟨h1, h2⟩
def spLow : Sp := fun vs H Q _ => ∃ (t b : Int) (m : Nat), vs = [.int t, .int b] ∧ 0 ≤ t ∧ t ≤ b ∧ 0 < b ∧ Sz m b ∧ m ≤ 256 ∧ ShareN m H Q
theorem sc_low : FnScope ["_law_top", "_law_bottom", "_law_by"] ["_law_top", "_law_bottom"] (defScope s_low) := ⟨rfl, rfl, rfl, by decide +kernel, rfl, by decide +kernel, by decide +kernel⟩
theorem ok_low {f : Addr} {fd : FuncData} (F : Fun K "_law_lowest" "_law_lowest" s_low f fd) (T : Txt mg) {fdiv : Addr} {ddiv : FuncData} (Gdiv : FnOk P w K mg base CX0 1 fdiv ddiv ["_law_one", "_law_other"] spDivn) (bdiv : Binds K ddiv ["_law_one", "_law_other"] []) (kdiv : PySem.W.keepIn K (.ref fdiv) = true) (mdiv : mg "_law_divides" = some (.ref fdiv)) : FnOk P w K mg base CX0 2 f fd ["_law_top", "_law_bottom"] spLow := by
  refine F.ok sc_low (fun vs H Q E h => ?_) (fun cdv A outer s H vs Q E hr h => ?_)
  · obtain ⟨t, b, m, rfl, _⟩ := h
    rfl
  obtain ⟨t, b, m, rfl, t0, t1, b0, sM, hm, q⟩ := h
  have sB := sM.mono hm
  refine ⟨_, (pss_cons (ps_set (i := 2) sc_low.nd rfl (Or.inl rfl) (pe_call Gdiv hr rfl mdiv kdiv bdiv .nil pass0 (pa_cons (pv 0) (pa_cons (pv 1) pa_nil))))
    (pss_one (ps_ret (pe_tup (pa_cons (pe_op op_fdivK (pv 0) (pv 2)) (pa_cons (pe_op op_fdivK (pv 1) (pv 2)) pa_nil)))))), ?_⟩
  obtain ⟨n1, n2⟩ := by_ready (t := t) b0 sB
  refine ⟨_, rfl, _, rfl, t, b, rfl, t0, by omega, ?_⟩
  refine ⟨_, rfl, _, rfl, _, _, rfl, rfl, ⟨n1, n2⟩, _, rfl, _, rfl, _, _, rfl, rfl, ⟨n1, n2⟩, (by show 2 ≤ sizeLine; decide), fun p3 h3 => ?_⟩
  exact q p3 _ _ (same_new h3 _) (shp_of t0 t1 b0 sB upd_same) (shp_sz t0 t1 b0 sM)
def spLess : Sp := fun vs H Q _ => ∃ f g r s, vs = [.ref f, .ref g] ∧ Shp H f r ∧ Shp H g s ∧ Q (.bl (decide (r < s))) H
theorem Shp.num {H : Hp} {a : Addr} {p : Rat} (h : Shp H a p) : 0 ≤ p.num ∧ p.num ≤ (p.den : Int) := ⟨(r_nonneg p).mpr h.lo, (r_le1 p).mpr h.hi⟩
theorem Shp.sn {H : Hp} {a : Addr} {p : Rat} (h : Shp H a p) : Sz 256 p.num := sz_le h.num.1 h.num.2 h.sz
theorem sc_less : FnScope ["_law_one", "_law_other"] ["_law_one", "_law_other"] (defScope s_less) := ⟨rfl, rfl, rfl, by decide +kernel, rfl, by decide +kernel, by decide +kernel⟩
theorem ok_less {f : Addr} {fd : FuncData} (F : Fun K "_law_less" "_law_less" s_less f fd) (T : Txt mg) : FnOk P w K mg base CX0 1 f fd ["_law_one", "_law_other"] spLess := by
  refine F.ok sc_less (fun vs H Q E h => ?_) (fun cdv A outer s H vs Q E hr h => ?_)
  · obtain ⟨f, g, r, s, rfl, _⟩ := h
    rfl
  obtain ⟨f, g, r, s, rfl, t, u, q⟩ := h
  refine ⟨_, (pss_one (ps_ret (pe_cmpR op_lt (pe_op op_mulK (pe_ix ix_tup (pv 0) pe_int (fun _ _ => rfl)) (pe_ix ix_tup (pv 1) pe_int (fun _ _ => rfl))) (pe_op op_mulK (pe_ix ix_tup (pv 1) pe_int (fun _ _ => rfl)) (pe_ix ix_tup (pv 0) pe_int (fun _ _ => rfl))) (nomark _)))), ?_⟩
  refine ⟨_, rfl, f, _, 0, _, rfl, rfl, SqT.of t.ob, at0, _, rfl, g, _, 1, _, rfl, rfl, SqT.of u.ob, at1, _, _, rfl, rfl, ⟨t.sn.smk (by decide), u.sz.smk (by decide)⟩, _, rfl, g, _, 0, _, rfl, rfl, SqT.of u.ob, at0, _, rfl, f, _, 1, _, rfl, rfl, SqT.of t.ob, at1, _, _, rfl, rfl, ⟨u.sn.smk (by decide), t.sz.smk (by decide)⟩, _, _, rfl, rfl, ?_⟩
  have e : decide (r.num * (s.den : Int) < s.num * (r.den : Int)) = decide (r < s) := by
    by_cases c : r < s
    · rw [decide_eq_true c, decide_eq_true ((r_under r s).mpr c)]
    · rw [decide_eq_false c, decide_eq_false (fun z => c ((r_under r s).mp z))]
  show Q (.bl (decide (r.num * (s.den : Int) < s.num * (r.den : Int)))) H
  rw [e]
  exact q
def ShL (H : Hp) : List Rat → List V → Prop
  | [], xs => xs = []
  | r :: rs, xs => ∃ a ys, xs = .ref a :: ys ∧ Shp H a r ∧ ShL H rs ys
theorem ShL.keep {H H' : Hp} (s : Same H H') : ∀ {rs : List Rat} {xs : List V}, ShL H rs xs → ShL H' rs xs
  | [], _, h => h
  | _ :: _, _, ⟨a, ys, e, h1, h2⟩ => ⟨a, ys, e, h1.keep s, h2.keep s⟩
theorem ShL.len {H : Hp} : ∀ {rs : List Rat} {xs : List V}, ShL H rs xs → xs.length = rs.length
  | [], _, h => by rw [show _ = [] from h]; rfl
  | _ :: _, _, ⟨a, ys, e, h1, h2⟩ => by rw [e, List.length_cons, List.length_cons, h2.len]
theorem ShL.get {H : Hp} : ∀ {rs : List Rat} {xs : List V} {i : Nat} {r : Rat}, ShL H rs xs → rs[i]? = some r → ∃ a, xs[i]? = some (.ref a) ∧ Shp H a r
  | _ :: _, _, 0, r, ⟨a, ys, e, h1, h2⟩, q => by
    rw [List.getElem?_cons_zero] at q; cases q
    exact ⟨a, by rw [e]; rfl, h1⟩
  | _ :: _, _, i + 1, r, ⟨a, ys, e, h1, h2⟩, q => by
    rw [List.getElem?_cons_succ] at q
    obtain ⟨b, f, g⟩ := h2.get q
    exact ⟨b, by rw [e, List.getElem?_cons_succ]; exact f, g⟩
theorem ShL.app {H : Hp} : ∀ {rs ss : List Rat} {xs ys : List V}, ShL H rs xs → ShL H ss ys → ShL H (rs ++ ss) (xs ++ ys)
  | [], _, _, _, h, k => by rw [show _ = [] from h]; exact k
  | _ :: _, _, _, _, ⟨a, zs, e, h1, h2⟩, k => by rw [e]; exact ⟨a, _, rfl, h1, h2.app k⟩
theorem ShL.take {H : Hp} : ∀ {rs : List Rat} {xs : List V} (n : Nat), ShL H rs xs → ShL H (rs.take n) (xs.take n)
  | [], _, n, h => by rw [show _ = [] from h]; simp [ShL]
  | _ :: _, _, 0, _ => rfl
  | _ :: _, _, n + 1, ⟨a, zs, e, h1, h2⟩ => by rw [e]; exact ⟨a, _, rfl, h1, h2.take n⟩
theorem ShL.drop {H : Hp} : ∀ {rs : List Rat} {xs : List V} (n : Nat), ShL H rs xs → ShL H (rs.drop n) (xs.drop n)
  | [], _, n, h => by rw [show _ = [] from h]; simp [ShL]
  | _ :: _, _, 0, h => h
  | _ :: _, _, n + 1, ⟨a, zs, e, h1, h2⟩ => by rw [e]; exact h2.drop n
def muS (n : Nat) (σ : St) : Nat := match σ with
  | [_, _, _, some (.int k)] => n - k.toNat
  | _ => 0
theorem lt40 {n : Nat} (h : n ≤ 40) : n < sizeLine := Nat.lt_of_le_of_lt h (by decide)
theorem same_write {H H1 : Hp} {l : Addr} {o : HO} (s : Same H H1) (hl : H l = none) : Same H (upd H1 l o) := fun b u e => by rw [upd_ne (ne_of_none e hl)]; exact s b u e
theorem ShL.write {H : Hp} {l : Addr} {zs ws : List V} (hl : H l = some (.lst zs)) : ∀ {rs : List Rat} {xs : List V}, ShL H rs xs → ShL (upd H l (.lst ws)) rs xs
  | [], _, h => h
  | _ :: _, _, ⟨a, ys, e, h1, h2⟩ => ⟨a, ys, e, ⟨by rw [upd_ne (ne_of h1.ob hl (by intro z; cases z))]; exact h1.ob, h1.lo, h1.hi, h1.sz⟩, h2.write hl⟩
def spSrt (K : PySem.W.Frag) : Sp := fun vs H Q _ => ∃ (a : Addr) (xs : List V) (rs : List Rat), vs = [.ref a] ∧ H a = some (.lst xs) ∧ ShL H rs xs ∧ rs.length ≤ 40 ∧ ∀ l H' ys, Same H H' → H' l = some (.lst ys) → ShL H' (srt rs) ys → Q (.ref l) H'
theorem sc_srt : FnScope ["_law_some", "_law_found", "_law_one", "_law_at"] ["_law_some"] (defScope s_srt) := ⟨rfl, rfl, rfl, by decide +kernel, rfl, by decide +kernel, by decide +kernel⟩
theorem ok_srt {f : Addr} {fd : FuncData} (F : Fun K "_law_sorted" "_law_sorted" s_srt f fd) (T : Txt mg) {fless : Addr} {dless : FuncData} (Gless : FnOk P w K mg base CX0 1 fless dless ["_law_one", "_law_other"] spLess) (bless : Binds K dless ["_law_one", "_law_other"] []) (kless : PySem.W.keepIn K (.ref fless) = true) (mless : mg "_law_less" = some (.ref fless)) : FnOk P w K mg base CX0 2 f fd ["_law_some"] (spSrt K) := by
  refine F.ok sc_srt (fun vs H Q E h => ?_) (fun cdv A outer s H vs Q E hr h => ?_)
  · obtain ⟨a, xs, rs, rfl, _⟩ := h
    rfl
  obtain ⟨a, xs, rs, rfl, ha, sh, h40, q⟩ := h
  refine ⟨_, (pss_cons (ps_set (i := 1) sc_srt.nd rfl (Or.inl rfl) (pe_lst pa_nil))
    (pss_cons (ps_for PassesOwn.never rfl (pi_list (pv 0)) (pg_name (i := 2) sc_srt.nd rfl (Or.inl rfl)) (pss_cons (ps_set (i := 3) sc_srt.nd rfl (Or.inl rfl) pe_int)
      (pss_cons (ps_while PassesOwn.never (PW.pt (pw_and (pt_cmpR op_lt (pv 3) (pe_callB call_len_seq rfl T.len boot_len (pa_cons (pv 1) pa_nil)) (nomark _)) (pw_and1 (pt_val (pe_call Gless hr rfl mless kless bless .nil pass0 (pa_cons (pe_ix ix_list (pv 1) (pv 3) (fun _ _ => rfl)) (pa_cons (pv 2) pa_nil))))))) (pss_one (ps_set (i := 3) sc_srt.nd rfl (Or.inl rfl) (pe_op op_add (pv 3) pe_int))))
      (pss_one (ps_expr (pe_bm PySem.F.plainAttrs_list PySem.F.slot_list_insert PySem.F.type_list_insert mt_insert (pv 1) (pa_cons (pv 3) (pa_cons (pv 2) pa_nil))))))))
    (pss_one (ps_ret (pv 1))))), ?_⟩
  have hlx := sh.len
  refine ⟨Nat.zero_le _, fun l hl => ?_⟩
  have sl := same_new hl (.lst [])
  refine ⟨_, rfl, a, rfl, ⟨_, SqL.of (sl _ _ ha)⟩, ?_⟩
  refine for_list (xs := xs) (fun i σ H' => Same H H' ∧ ∃ ys v1 v2, σ = [some (.ref a), some (.ref l), v1, v2] ∧ H' l = some (.lst ys) ∧ ShL H' (srt (rs.take i)) ys) ⟨sl, [], none, none, rfl, upd_same, rfl⟩ ?_ ?_ ?_
  · rintro i σ H' hi ⟨s1, _⟩
    exact SqL.of (s1 _ _ ha)
  · rintro i x σ H1 hx ⟨s1, ys, v1, v2, rfl, hl1, sh1⟩
    have hi : i < rs.length := by rw [← hlx]; exact (List.getElem?_eq_some_iff.mp hx).1
    have er := List.getElem?_eq_getElem hi
    obtain ⟨b, eb, sb⟩ := (sh.keep s1).get er
    rw [hx] at eb
    cases eb
    generalize hr0 : rs[i] = r at *
    have tk : rs.take (i + 1) = rs.take i ++ [r] := by rw [List.take_add_one, er]; rfl
    have ly := sh1.len
    have l40 : ys.length ≤ 40 := by
      rw [ly, (srt_up _ _ rfl).2.1]; simp; omega
    generalize hA : srt (rs.take i) = acc at *
    refine while_by (fun σ H' => H' = H1 ∧ ∃ k : Nat, σ = [some (.ref a), some (.ref l), some (.ref b), some (.int k)] ∧ k ≤ lower r acc) (fun σ _ => muS ys.length σ) ⟨rfl, 0, rfl, Nat.zero_le _⟩ ?_ ?_
    · rintro σ H' ⟨rfl, k, rfl, hk⟩
      have kle := Nat.le_trans hk (lower_le r acc)
      refine ⟨_, rfl, _, rfl, l, _, rfl, .inl (SqL.of hl1), _, _, rfl, rfl, _, rfl, ?_⟩
      refine ite2 (fun c => ?_) (fun c => ?_)
      · have c' : (k : Int) < ((ys.length : Nat) : Int) := of_decide_eq_true c
        have hka : k < acc.length := by rw [← ly]; omega
        obtain ⟨b2, eb2, sb2⟩ := sh1.get (List.getElem?_eq_getElem hka)
        refine ⟨_, rfl, _, rfl, l, _, _, _, rfl, rfl, SqL.of hl1, atI_nat eb2, _, rfl, b2, b, _, _, rfl, sb2, sb, _, rfl, ?_⟩
        refine ite2 (fun c2 => ?_) (fun c2 => ?_)
        · have c2' : acc[k] < r := of_decide_eq_true c2
          refine ⟨_, rfl, _, _, rfl, rfl, ⟨rfl, k + 1, rfl, ?_⟩, ?_⟩
          · by_cases z : k < lower r acc
            · exact z
            · have ez : k = lower r acc := by omega
              exact absurd c2' (lower_at (r := r) (l := acc) (by rw [← ez]; exact List.getElem?_eq_getElem hka))
          · show ys.length - (k + 1) < ys.length - k
            omega
        · have hkk : k = lower r acc := lower_is hk (.inr ⟨_, List.getElem?_eq_getElem hka, ofD c2⟩)
          refine ⟨_, rfl, .inl ⟨rfl, _, SqL.of hl1⟩, _, rfl, _, rfl, l, ys, (k : Int), .ref b, rfl, rfl, hl1, by omega, by omega, lt40 l40, ?_⟩
          have ek : ((k : Int)).toNat = k := rfl
          rw [ek]
          refine ⟨same_write s1 hl, _, _, _, rfl, upd_same, ?_⟩
          rw [tk, srt_snoc, hA]
          unfold insR
          rw [← hkk]
          have z := ((sh1.take k).app (show ShL _ [r] [.ref b] from ⟨b, [], rfl, sb, rfl⟩)).app (sh1.drop k)
          have z' := z.write (l := l) (zs := ys) hl1 (ws := ys.take k ++ .ref b :: ys.drop k)
          rw [List.append_assoc, List.append_assoc] at z'
          exact z'
      · have c' := ofD c
        have hkk : k = lower r acc := lower_is hk (.inl (by rw [← ly]; omega))
        refine ⟨_, rfl, .inl ⟨rfl, _, SqL.of hl1⟩, _, rfl, _, rfl, l, ys, (k : Int), .ref b, rfl, rfl, hl1, by omega, by omega, lt40 l40, ?_⟩
        have ek : ((k : Int)).toNat = k := rfl
        rw [ek]
        refine ⟨same_write s1 hl, _, _, _, rfl, upd_same, ?_⟩
        rw [tk, srt_snoc, hA]
        unfold insR
        rw [← hkk]
        have z := ((sh1.take k).app (show ShL _ [r] [.ref b] from ⟨b, [], rfl, sb, rfl⟩)).app (sh1.drop k)
        have z' := z.write (l := l) (zs := ys) hl1 (ws := ys.take k ++ .ref b :: ys.drop k)
        rw [List.append_assoc, List.append_assoc] at z'
        exact z'
    · intro σ H Q Q' hq h
      obtain ⟨v, e1, v2, e2, p, zs, e3, e4, i, j, e5, e6, c, e7, h⟩ := h
      refine ⟨v, e1, v2, e2, p, zs, e3, e4, i, j, e5, e6, c, e7, ?_⟩
      cases c with
      | false =>
        rw [if_neg Bool.false_ne_true] at h ⊢
        exact hq _ _ h
      | true =>
        rw [if_pos rfl] at h ⊢
        obtain ⟨v3, f1, v4, f2, p2, z2, i2, y2, f3, f4, f5, f6, v5, f7, f, g, r, s, f8, f9, f10, c2, f11, h⟩ := h
        exact ⟨v3, f1, v4, f2, p2, z2, i2, y2, f3, f4, f5, f6, v5, f7, f, g, r, s, f8, f9, f10, c2, f11, hq _ _ h⟩
  · rintro σ H1 ⟨s1, ys, v1, v2, rfl, hl1, sh1⟩
    refine ⟨_, rfl, q l H1 ys s1 hl1 ?_⟩
    rw [hlx, List.take_length] at sh1
    exact sh1
def Bh (i : Int) : Prop := Builtin.Int.intBits i ≤ 2000000
theorem Bh.pow {i : Int} (h : Bh i) {j : Int} (h0 : 0 ≤ j) (h1 : j ≤ 60) : 0 ≤ j ∧ (Builtin.Int.intBits i : Int) * j ≤ 2 ^ 27 := by
  refine ⟨h0, ?_⟩
  have h' : (Builtin.Int.intBits i : Int) ≤ 2000000 := by unfold Bh at h; omega
  have := Int.mul_le_mul h' h1 h0 (by decide)
  omega
theorem bh_of {c k : Int} (h : Bg c) (hk : k.natAbs ≤ 1000) : Bh (c + k) := by
  have h1 := PySem.intBits_le_iff.mp (show Builtin.Int.intBits c ≤ 1048576 from h)
  refine PySem.intBits_le_iff.mpr ?_
  have h2 : (c + k).natAbs ≤ c.natAbs + k.natAbs := Int.natAbs_add_le c k
  have h3 : (2 : Nat) ^ 2000000 = 2 ^ 1048576 * 2 ^ 951424 := by rw [← Nat.pow_add]
  have h4 : (2 : Nat) ^ 10 ≤ 2 ^ 951424 := Nat.pow_le_pow_right (by decide) (by decide)
  have h5 : 0 < (2 : Nat) ^ 1048576 := Nat.two_pow_pos _
  rw [h3]
  generalize (2 : Nat) ^ 1048576 = X at *
  generalize (2 : Nat) ^ 951424 = Y at *
  have h6 : X * 1024 ≤ X * Y := Nat.mul_le_mul_left X (by omega)
  omega
abbrev botK (c : Int) : List Int := [1 + c % 4, 2 + c % 19, 12, 10 ^ (28 : Int).toNat + c ^ (3 : Int).toNat % 10 ^ (29 : Int).toNat]
def botJ (c k : Int) : Int := (botK c).getD k.toNat 0
abbrev topK (c k : Int) : List Int := [c / 5 % (botJ c k + 1), c ^ (5 : Int).toNat % (botJ c k + 1)]
def topJ (c k : Int) : Int := (topK c k).getD (k / 3).toNat 0
theorem ten28 : (10 : Int) ^ (28 : Int).toNat = 10000000000000000000000000000 := by decide +kernel
theorem ten29 : (10 : Int) ^ (29 : Int).toNat = 100000000000000000000000000000 := by decide +kernel
theorem botJ_in (c : Int) {k : Int} (h0 : 0 ≤ k) (h1 : k < 4) : 1 ≤ botJ c k ∧ botJ c k ≤ 200000000000000000000000000000 := by
  have hm : botJ c k ∈ botK c := getD_mem (by show k.toNat < 4; omega)
  have g1 := md0 c (show (0 : Int) < 4 by decide)
  have f1 := md1 c (show (0 : Int) < 4 by decide)
  have g2 := md0 c (show (0 : Int) < 19 by decide)
  have f2 := md1 c (show (0 : Int) < 19 by decide)
  have g3 := md0 (c ^ (3 : Int).toNat) (show (0 : Int) < 10 ^ (29 : Int).toNat by rw [ten29]; decide)
  have f3 := md1 (c ^ (3 : Int).toNat) (show (0 : Int) < 10 ^ (29 : Int).toNat by rw [ten29]; decide)
  generalize botJ c k = b at *
  simp only [List.mem_cons, List.not_mem_nil, or_false] at hm
  generalize c ^ (3 : Int).toNat % 10 ^ (29 : Int).toNat = z at *
  rw [ten28] at hm
  rw [ten29] at f3
  rcases hm with e | e | e | e <;> omega
theorem topJ_in (c : Int) {k : Int} (h0 : 0 ≤ k) (h1 : k < 4) : 0 ≤ topJ c k ∧ topJ c k ≤ botJ c k := by
  have hm : topJ c k ∈ topK c k := getD_mem (by show (k / 3).toNat < 2; omega)
  obtain ⟨b1, b2⟩ := botJ_in c h0 h1
  have g2 := md0 (c / 5) (show (0 : Int) < botJ c k + 1 by omega)
  have f2 := md1 (c / 5) (show (0 : Int) < botJ c k + 1 by omega)
  have g3 := md0 (c ^ (5 : Int).toNat) (show (0 : Int) < botJ c k + 1 by omega)
  have f3 := md1 (c ^ (5 : Int).toNat) (show (0 : Int) < botJ c k + 1 by omega)
  generalize topJ c k = t at *
  simp only [List.mem_cons, List.not_mem_nil, or_false] at hm
  generalize c ^ (5 : Int).toNat % (botJ c k + 1) = z at *
  generalize c / 5 % (botJ c k + 1) = y at *
  rcases hm with e | e <;> omega
theorem lt98 : (200000000000000000000000000000 : Nat) < 2 ^ 98 := by decide +kernel
theorem sz98 {i : Int} (h : i.natAbs ≤ 200000000000000000000000000000) : Sz 98 i := Nat.lt_of_le_of_lt h lt98
def spShk : Sp := fun vs H Q _ => ∃ c k : Int, vs = [.int c, .int k] ∧ Bh c ∧ 0 ≤ k ∧ k ≤ 4 ∧ ShareN 98 H Q
theorem sc_shk : FnScope ["_law_cell", "_law_kind", "_law_bottom", "_law_top", "_law_by"] ["_law_cell", "_law_kind"] (defScope s_shk) := ⟨rfl, rfl, rfl, by decide +kernel, rfl, by decide +kernel, by decide +kernel⟩
theorem ok_shk {f : Addr} {fd : FuncData} (F : Fun K "_law_share" "_law_share" s_shk f fd) (T : Txt mg) {fdiv : Addr} {ddiv : FuncData} (Gdiv : FnOk P w K mg base CX0 2 fdiv ddiv ["_law_one", "_law_other"] spDivn) (bdiv : Binds K ddiv ["_law_one", "_law_other"] []) (kdiv : PySem.W.keepIn K (.ref fdiv) = true) (mdiv : mg "_law_divides" = some (.ref fdiv)) {flow : Addr} {dlow : FuncData} (Glow : FnOk P w K mg base CX0 2 flow dlow ["_law_top", "_law_bottom"] spLow) (blow : Binds K dlow ["_law_top", "_law_bottom"] []) (klow : PySem.W.keepIn K (.ref flow) = true) (mlow : mg "_law_lowest" = some (.ref flow)) : FnOk P w K mg base CX0 3 f fd ["_law_cell", "_law_kind"] spShk := by
  refine F.ok sc_shk (fun vs H Q E h => ?_) (fun cdv A outer s H vs Q E hr h => ?_)
  · obtain ⟨c, k, rfl, _⟩ := h
    rfl
  obtain ⟨c, k, rfl, bg, k0, k4, q⟩ := h
  refine ⟨_, (pss_cons (ps_if (pt_cmpR op_eq (pv 1) pe_int (nomark _)) (pss_one (ps_ret (pe_call Glow hr rfl mlow klow blow .nil pass0 (pa_cons (pe_op op_add (pe_op op_mul pe_int (pe_op op_pow pe_int pe_int)) (pe_op op_mod (pv 0) pe_int)) (pa_cons (pe_op op_pow pe_int pe_int) pa_nil))))) pss_nil)
    (pss_cons (ps_set (i := 2) sc_shk.nd rfl (Or.inl rfl) (pe_ix ix_list (pe_lst (pa_cons (pe_op op_add pe_int (pe_op op_mod (pv 0) pe_int)) (pa_cons (pe_op op_add pe_int (pe_op op_mod (pv 0) pe_int)) (pa_cons pe_int (pa_cons (pe_op op_add (pe_op op_pow pe_int pe_int) (pe_op op_mod (pe_op op_powB (pv 0) pe_int) (pe_op op_pow pe_int pe_int))) pa_nil))))) (pv 1) (fun _ _ => rfl)))
    (pss_cons (ps_set (i := 3) sc_shk.nd rfl (Or.inl rfl) (pe_ix ix_list (pe_lst (pa_cons (pe_op op_mod (pe_op op_fdiv (pv 0) pe_int) (pe_op op_add (pv 2) pe_int)) (pa_cons (pe_op op_mod (pe_op op_powB (pv 0) pe_int) (pe_op op_add (pv 2) pe_int)) pa_nil))) (pe_op op_fdiv (pv 1) pe_int) (fun _ _ => rfl)))
    (pss_cons (ps_set (i := 4) sc_shk.nd rfl (Or.inl rfl) (pe_call Gdiv hr rfl mdiv kdiv bdiv .nil pass0 (pa_cons (pv 3) (pa_cons (pv 2) pa_nil))))
    (pss_one (ps_ret (pe_tup (pa_cons (pe_op op_fdivK (pv 3) (pv 4)) (pa_cons (pe_op op_fdivK (pv 2) (pv 4)) pa_nil))))))))), ?_⟩
  refine ⟨_, rfl, rfl, _, rfl, ?_⟩
  refine ite2 (fun d => ?_) (fun d => ?_)
  · have m0 := md0 c (show (0 : Int) < 9 by decide)
    have m1 := md1 c (show (0 : Int) < 9 by decide)
    refine ⟨_, _, rfl, rfl, ⟨by decide, by decide, by decide⟩, _, _, rfl, rfl, .inl ⟨by decide, by decide⟩, _, rfl, _, _, rfl, rfl, (by show (0 : Int) < 9; decide), _, _, rfl, rfl, _, _, rfl, rfl, ⟨by decide, by decide, by decide⟩, _, _, 98, rfl, ?_, ?_, ?_, ?_, by decide, q⟩
    · rw [ten28]; omega
    · rw [ten28, ten29]; omega
    · rw [ten29]; decide
    · exact sz98 (by rw [ten29]; decide)
  have k3 : k < 4 := by
    have : ¬ k = 4 := fun z => d (decide_eq_true (congrArg V.int z))
    omega
  obtain ⟨b1, b2⟩ := botJ_in c k0 k3
  obtain ⟨t1, t2⟩ := topJ_in c k0 k3
  refine ⟨_, rfl, _, _, rfl, rfl, (by show (0 : Int) < 4; decide), _, _, rfl, rfl, _, rfl, _, _, rfl, rfl, (by show (0 : Int) < 19; decide), _, _, rfl, rfl, _, _, rfl, rfl, ⟨by decide, by decide, by decide⟩, _, rfl, _, _, rfl, rfl, bg.pow (by decide) (by decide), _, _, rfl, rfl, ⟨by decide, by decide, by decide⟩, _, _, rfl, rfl, (by show (0 : Int) < 10 ^ (29 : Int).toNat; rw [ten29]; decide), _, _, rfl, rfl, (by show 4 ≤ sizeLine; decide), fun p1 h1 => ?_⟩
  refine ⟨_, rfl, p1, _, _, _, rfl, rfl, SqL.of upd_same, at_getD (ns := botK c) k0 (by show k < 4; omega), ?_⟩
  refine ⟨_, rfl, _, _, rfl, rfl, ⟨by decide, by decide⟩, _, rfl, _, _, rfl, rfl, _, _, rfl, rfl, (by show 0 < botJ c k + 1; omega), _, rfl, _, _, rfl, rfl, bg.pow (by decide) (by decide), _, rfl, _, _, rfl, rfl, _, _, rfl, rfl, (by show 0 < botJ c k + 1; omega), (by show 2 ≤ sizeLine; decide), fun p2 h2 => ?_⟩
  refine ⟨_, rfl, _, _, rfl, rfl, ⟨by decide, by decide⟩, p2, _, _, _, rfl, rfl, SqL.of upd_same, at_getD (ns := topK c k) (by show 0 ≤ k / 3; omega) (by show k / 3 < 2; omega), ?_⟩
  have sM : Sz 98 (botJ c k) := sz98 (by omega)
  have sB : Sz 256 (botJ c k) := sM.mono (by decide)
  obtain ⟨n1, n2⟩ := by_ready (t := topJ c k) (show 0 < botJ c k by omega) sB
  refine ⟨_, rfl, _, rfl, topJ c k, botJ c k, rfl, t1, by omega, ?_⟩
  refine ⟨_, rfl, _, rfl, _, _, rfl, rfl, ⟨n1, n2⟩, _, rfl, _, rfl, _, _, rfl, rfl, ⟨n1, n2⟩, (by show 2 ≤ sizeLine; decide), fun p3 h3 => ?_⟩
  exact q p3 _ _ (((same_new h1 _).trans (same_new h2 _)).trans (same_new h3 _)) (shp_of t1 t2 (by omega) sB upd_same) (shp_sz t1 t2 (by omega) sM)
def RowP (H : Hp) : List (Rat × Rat) → List V → Prop
  | [], xs => xs = []
  | p :: ps, xs => ∃ a la ha ys, xs = .ref a :: ys ∧ H a = some (.tup [.ref la, .ref ha]) ∧ Shp H la p.1 ∧ Shp H ha p.2 ∧ RowP H ps ys
theorem RowP.keep {H H' : Hp} (s : Same H H') : ∀ {ps : List (Rat × Rat)} {xs : List V}, RowP H ps xs → RowP H' ps xs
  | [], _, h => h
  | _ :: _, _, ⟨a, la, ha, ys, e, h0, h1, h2, h3⟩ => ⟨a, la, ha, ys, e, s _ _ h0, h1.keep s, h2.keep s, h3.keep s⟩
theorem RowP.len {H : Hp} : ∀ {ps : List (Rat × Rat)} {xs : List V}, RowP H ps xs → xs.length = ps.length
  | [], _, h => by rw [show _ = [] from h]; rfl
  | _ :: _, _, ⟨a, la, ha, ys, e, h0, h1, h2, h3⟩ => by rw [e, List.length_cons, List.length_cons, h3.len]
theorem RowP.get {H : Hp} : ∀ {ps : List (Rat × Rat)} {xs : List V} {i : Nat} {p : Rat × Rat}, RowP H ps xs → ps[i]? = some p → ∃ a la ha, xs[i]? = some (.ref a) ∧ H a = some (.tup [.ref la, .ref ha]) ∧ Shp H la p.1 ∧ Shp H ha p.2
  | _ :: _, _, 0, p, ⟨a, la, ha, ys, e, h0, h1, h2, h3⟩, q => by
    rw [List.getElem?_cons_zero] at q; cases q
    exact ⟨a, la, ha, by rw [e]; rfl, h0, h1, h2⟩
  | _ :: _, _, i + 1, p, ⟨a, la, ha, ys, e, h0, h1, h2, h3⟩, q => by
    rw [List.getElem?_cons_succ] at q
    obtain ⟨b, lb, hb, f, g⟩ := h3.get q
    exact ⟨b, lb, hb, by rw [e, List.getElem?_cons_succ]; exact f, g⟩
theorem RowP.app {H : Hp} : ∀ {ps qs : List (Rat × Rat)} {xs ys : List V}, RowP H ps xs → RowP H qs ys → RowP H (ps ++ qs) (xs ++ ys)
  | [], _, _, _, h, k => by rw [show _ = [] from h]; exact k
  | _ :: _, _, _, _, ⟨a, la, ha, zs, e, h0, h1, h2, h3⟩, k => by rw [e]; exact ⟨a, la, ha, _, rfl, h0, h1, h2, h3.app k⟩
theorem Shp.write {H : Hp} {l a : Addr} {zs ws : List V} {r : Rat} (hl : H l = some (.lst zs)) (h : Shp H a r) : Shp (upd H l (.lst ws)) a r :=
  ⟨by rw [upd_ne (ne_of h.ob hl (by intro z; cases z))]; exact h.ob, h.lo, h.hi, h.sz⟩
theorem RowP.write {H : Hp} {l : Addr} {zs ws : List V} (hl : H l = some (.lst zs)) : ∀ {ps : List (Rat × Rat)} {xs : List V}, RowP H ps xs → RowP (upd H l (.lst ws)) ps xs
  | [], _, h => h
  | _ :: _, _, ⟨a, la, ha, ys, e, h0, h1, h2, h3⟩ => ⟨a, la, ha, ys, e, by rw [upd_ne (ne_of h0 hl (by intro z; cases z))]; exact h0, h1.write hl, h2.write hl, h3.write hl⟩
structure IsRule (n : Nat) (ps : List (Rat × Rat)) : Prop where
  n1 : 1 ≤ n
  n12 : n ≤ 12
  len : ps.length = n + 1
  lows : Up (ps.map (·.1))
  highs : Up (ps.map (·.2))
  le : ∀ p ∈ ps, p.1 ≤ p.2
structure RuleAt (H : Hp) (x : Addr) (n : Nat) (ps : List (Rat × Rat)) : Prop where
  ob : ∃ t zs, H x = some (.tup [.int n, .ref t]) ∧ H t = some (.tup zs) ∧ RowP H ps zs
  ok : IsRule n ps
theorem RuleAt.keep {H H' : Hp} {x : Addr} {n : Nat} {ps : List (Rat × Rat)} (h : RuleAt H x n ps) (s : Same H H') : RuleAt H' x n ps := by
  obtain ⟨⟨t, zs, a, b, c⟩, ok⟩ := h
  exact ⟨⟨t, zs, s _ _ a, s _ _ b, c.keep s⟩, ok⟩
theorem seq_by {t u : TS} {D : Ends} {σ : St} {H : Hp} (P : St → Hp → Prop) (h1 : ∀ N : St → Hp → Prop, (∀ σ H, P σ H → N σ H) → t { D with nx := N } σ H) (h2 : ∀ σ H, P σ H → u D σ H) : tSeq t u D σ H := h1 _ h2
theorem shl_snoc {H H4 : Hp} {D x : Addr} {ys : List V} {rs : List Rat} {p : Rat} (s : Same H H4) (e : H D = some (.lst ys)) (h : ShL H rs ys) (hx : Shp H4 x p) : ShL (upd H4 D (.lst (ys ++ [.ref x]))) (rs ++ [p]) (ys ++ [.ref x]) :=
  (((h.keep s).app (show ShL H4 [p] [.ref x] from ⟨x, [], rfl, hx, rfl⟩))).write (s _ _ e)
def Sm (rs : List Rat) : Prop := ∀ r ∈ rs, Sz 98 (r.den : Int)
theorem Sm.snoc {rs : List Rat} {p : Rat} (h : Sm rs) (z : Sz 98 (p.den : Int)) : Sm (rs ++ [p]) := fun r hr => by
  rcases List.mem_append.mp hr with q | q
  · exact h r q
  · rw [List.mem_singleton.mp q]; exact z
theorem Sm.srt {rs : List Rat} (h : Sm rs) : Sm (srt rs) := fun r hr => h r (((srt_up _ rs rfl).2.2 r).mp hr)
def Rows (i : Nat) (ys : List V) (H : Hp) : Prop := ∃ rs, rs.length = i ∧ ShL H rs ys ∧ Sm rs
def hiF (fl : Bool) (l h : Rat) : Rat := if h < l ∨ fl = true then l else h
def stz (fl : Bool) (ls hs : List Rat) : List (Rat × Rat) := List.zipWith (fun l h => (l, hiF fl l h)) ls hs
theorem stz_at {fl : Bool} {ls hs : List Rat} {i : Nat} {p : Rat × Rat} (h : (stz fl ls hs)[i]? = some p) : ∃ l k, ls[i]? = some l ∧ hs[i]? = some k ∧ p = (l, hiF fl l k) := by
  unfold stz at h
  rw [List.getElem?_zipWith] at h
  cases e1 : ls[i]? with
  | none => rw [e1] at h; cases h
  | some l =>
    cases e2 : hs[i]? with
    | none => rw [e1, e2] at h; cases h
    | some k => rw [e1, e2] at h; exact ⟨l, k, rfl, rfl, (Option.some.inj h).symm⟩
theorem up_of {l : List Rat} (h : ∀ (i j : Nat) (x y : Rat), i < j → l[i]? = some x → l[j]? = some y → x ≤ y) : Up l := by
  refine List.pairwise_iff_getElem.mpr fun i j hi hj hij => h i j _ _ hij (List.getElem?_eq_getElem hi) (List.getElem?_eq_getElem hj)
theorem stz_rule {n : Nat} {fl : Bool} {ls hs : List Rat} (h1 : 1 ≤ n) (h12 : n ≤ 12) (u1 : Up ls) (u2 : Up hs) (l1 : ls.length = n + 1) (l2 : hs.length = n + 1) : IsRule n (stz fl ls hs) where
  n1 := h1
  n12 := h12
  len := by unfold stz; simp [l1, l2]
  lows := up_of fun i j x y hij ex ey => by
    rw [List.getElem?_map] at ex ey
    cases e1 : (stz fl ls hs)[i]? with
    | none => rw [e1] at ex; cases ex
    | some p =>
      cases e2 : (stz fl ls hs)[j]? with
      | none => rw [e2] at ey; cases ey
      | some q =>
        rw [e1] at ex; rw [e2] at ey; cases ex; cases ey
        obtain ⟨l, k, a, b, rfl⟩ := stz_at e1
        obtain ⟨l', k', a', b', rfl⟩ := stz_at e2
        exact u1.at (Nat.le_of_lt hij) a a'
  highs := up_of fun i j x y hij ex ey => by
    rw [List.getElem?_map] at ex ey
    cases e1 : (stz fl ls hs)[i]? with
    | none => rw [e1] at ex; cases ex
    | some p =>
      cases e2 : (stz fl ls hs)[j]? with
      | none => rw [e2] at ey; cases ey
      | some q =>
        rw [e1] at ex; rw [e2] at ey; cases ex; cases ey
        obtain ⟨l, k, a, b, rfl⟩ := stz_at e1
        obtain ⟨l', k', a', b', rfl⟩ := stz_at e2
        have z1 := u1.at (Nat.le_of_lt hij) a a'
        have z2 := u2.at (Nat.le_of_lt hij) b b'
        show hiF fl l k ≤ hiF fl l' k'
        unfold hiF
        split <;> split <;> grind
  le := fun p hp => by
    obtain ⟨i, hi⟩ := List.mem_iff_getElem?.mp hp
    obtain ⟨l, k, a, b, rfl⟩ := stz_at hi
    show l ≤ hiF fl l k
    unfold hiF
    split <;> grind
def spRule (K : PySem.W.Frag) : Sp := fun vs H Q _ => ∃ (a : Addr) (ns : List Int) (tn : Int), vs = [.ref a, .int tn] ∧ SqL K H a (ns.map V.int) ∧ (∀ i ∈ ns, Bg i) ∧ 0 ≤ tn ∧ tn ≤ 100 ∧ ∀ x H' ps, Same H H' → RuleAt H' x ((1 : Int) + ns.getD (0 : Int).toNat 0 % 12).toNat ps → Q (.ref x) H'
theorem sc_rule : FnScope ["_law_script", "_law_turn", "_law_n", "_law_kind", "_law_lows", "_law_highs", "_law_found", "_law_low", "_law_high"] ["_law_script", "_law_turn"] (defScope s_rule) := ⟨rfl, rfl, rfl, by decide +kernel, rfl, by decide +kernel, by decide +kernel⟩
theorem ok_rule {f : Addr} {fd : FuncData} (F : Fun K "_law_rule" "_law_rule" s_rule f fd) (T : Txt mg) {fcell : Addr} {dcell : FuncData} (Gcell : FnOk P w K mg base CX0 4 fcell dcell ["_law_script", "_law_k"] (spCell K)) (bcell : Binds K dcell ["_law_script", "_law_k"] []) (kcell : PySem.W.keepIn K (.ref fcell) = true) (mcell : mg "_law_cell_at" = some (.ref fcell)) {fshk : Addr} {dshk : FuncData} (Gshk : FnOk P w K mg base CX0 4 fshk dshk ["_law_cell", "_law_kind"] spShk) (bshk : Binds K dshk ["_law_cell", "_law_kind"] []) (kshk : PySem.W.keepIn K (.ref fshk) = true) (mshk : mg "_law_share" = some (.ref fshk)) {fsrt : Addr} {dsrt : FuncData} (Gsrt : FnOk P w K mg base CX0 4 fsrt dsrt ["_law_some"] (spSrt K)) (bsrt : Binds K dsrt ["_law_some"] []) (ksrt : PySem.W.keepIn K (.ref fsrt) = true) (msrt : mg "_law_sorted" = some (.ref fsrt)) {fless : Addr} {dless : FuncData} (Gless : FnOk P w K mg base CX0 4 fless dless ["_law_one", "_law_other"] spLess) (bless : Binds K dless ["_law_one", "_law_other"] []) (kless : PySem.W.keepIn K (.ref fless) = true) (mless : mg "_law_less" = some (.ref fless)) : FnOk P w K mg base CX0 5 f fd ["_law_script", "_law_turn"] (spRule K) := by
  refine F.ok sc_rule (fun vs H Q E h => ?_) (fun cdv A outer s H vs Q E hr h => ?_)
  · obtain ⟨a, ns, tn, rfl, _⟩ := h
    rfl
  obtain ⟨a, ns, tn, rfl, hS, hbg, tn0, tn1, q⟩ := h
  refine ⟨_, (pss_cons (ps_set (i := 2) sc_rule.nd rfl (Or.inl rfl) (pe_op op_add pe_int (pe_op op_mod (pe_call Gcell hr rfl mcell kcell bcell .nil pass0 (pa_cons (pv 0) (pa_cons pe_int pa_nil))) pe_int)))
    (pss_cons (ps_set (i := 3) sc_rule.nd rfl (Or.inr rfl) (pe_op op_mod (pe_call Gcell hr rfl mcell kcell bcell .nil pass0 (pa_cons (pv 0) (pa_cons pe_int pa_nil))) pe_int))
    (pss_cons (ps_set (i := 4) sc_rule.nd rfl (Or.inl rfl) (pe_call Gsrt hr rfl msrt ksrt bsrt .nil pass0 (pa_cons (pe_comp (ts := [("_law_kind", 3), ("_law_turn", 1), ("_law_script", 0)]) rfl ⟨rfl, sub3 rfl rfl rfl, rfl, rfl, rfl, rfl, by decide +kernel, rfl, rfl⟩ (pi_range1 rfl T.range (pa_cons (pe_op op_add (pv 2) pe_int) pa_nil)) (fun C s3 H3 fp => (pe_call Gshk hr rfl mshk kshk bshk .nil pass0 (pa_cons (pe_op op_add (pe_call Gcell hr rfl mcell kcell bcell .nil pass0 (pa_cons (pv 3) (pa_cons (pe_op op_add pe_int (pv 0)) pa_nil))) (pv 2)) (pa_cons (pv 1) pa_nil))))) pa_nil)))
    (pss_cons (ps_set (i := 5) sc_rule.nd rfl (Or.inl rfl) (pe_call Gsrt hr rfl msrt ksrt bsrt .nil pass0 (pa_cons (pe_comp (ts := [("_law_kind", 3), ("_law_turn", 1), ("_law_script", 0)]) rfl ⟨rfl, sub3 rfl rfl rfl, rfl, rfl, rfl, rfl, by decide +kernel, rfl, rfl⟩ (pi_range1 rfl T.range (pa_cons (pe_op op_add (pv 2) pe_int) pa_nil)) (fun C s3 H3 fp => (pe_call Gshk hr rfl mshk kshk bshk .nil pass0 (pa_cons (pe_op op_add (pe_op op_add (pe_call Gcell hr rfl mcell kcell bcell .nil pass0 (pa_cons (pv 3) (pa_cons (pe_op op_add pe_int (pv 0)) pa_nil))) pe_int) (pv 2)) (pa_cons (pv 1) pa_nil))))) pa_nil)))
    (pss_cons (ps_set (i := 6) sc_rule.nd rfl (Or.inl rfl) (pe_lst pa_nil))
    (pss_cons (ps_for PassesOwn.never rfl (pi_zip rfl T.zip (pa_cons (pv 4) (pa_cons (pv 5) pa_nil))) (pg_tup rfl (pgs_cons (pg_name (i := 7) sc_rule.nd rfl (Or.inl rfl)) (pgs_cons (pg_name (i := 8) sc_rule.nd rfl (Or.inl rfl)) pgs_nil))) (pss_cons (ps_if (pt_val (pe_call Gless hr rfl mless kless bless .nil pass0 (pa_cons (pv 8) (pa_cons (pv 7) pa_nil)))) (pss_one (ps_set (i := 8) sc_rule.nd rfl (Or.inl rfl) (pv 7))) pss_nil)
      (pss_one (ps_expr (pe_bm PySem.F.plainAttrs_list PySem.F.slot_list_append PySem.F.type_list_append mt_append (pv 6) (pa_cons (pe_tup (pa_cons (pv 7) (pa_cons (pv 8) pa_nil))) pa_nil))))))
    (pss_one (ps_ret (pe_tup (pa_cons (pv 2) (pa_cons (pe_callTy call_tuple_of rfl T.tuple boot_tuple (pa_cons (pv 6) pa_nil)) pa_nil))))))))))), ?_⟩
  refine ⟨_, rfl, a, ns, 0, rfl, hS, by omega, _, _, rfl, rfl, (by show (0 : Int) < 12; decide), _, _, rfl, rfl, ?_⟩
  refine ⟨_, rfl, a, ns, 1, rfl, hS, by omega, _, _, rfl, rfl, (by show (0 : Int) < 5; decide), ?_⟩
  have n0 := md0 (ns.getD (0 : Int).toNat 0) (show (0 : Int) < 12 by decide)
  have n1 := md1 (ns.getD (0 : Int).toNat 0) (show (0 : Int) < 12 by decide)
  have k0 := md0 (ns.getD (1 : Int).toNat 0) (show (0 : Int) < 5 by decide)
  have k1 := md1 (ns.getD (1 : Int).toNat 0) (show (0 : Int) < 5 by decide)
  have big : ∀ m : Nat, m ≤ 40 → m ≤ sizeLine := fun m h => Nat.le_trans h (by decide)
  refine ⟨_, rfl, _, _, rfl, rfl, _, rfl, by omega, by omega, fun D hD => ?_⟩
  refine comp_rangeR Rows hD (big _ (by omega)) ⟨[], rfl, rfl, by intro r hr; cases hr⟩ ?_ ?_
  · rintro i ys H2 k hi sm e ⟨rs, hl, sh, z98⟩ hk
    refine ⟨_, rfl, _, rfl, _, _, rfl, rfl, a, ns, _, rfl, sm.seq hS, by omega, _, rfl, _, _, rfl, rfl, _, rfl, _, _, rfl, ?_, k0, by omega, fun x H4 p s4 hx z => hk _ _ s4 ⟨rs ++ [p], by simp [hl], shl_snoc s4 e sh hx, z98.snoc z⟩⟩
    exact bh_of (k := tn) (bg_getD hbg _) (by omega)
  rintro ys H2 s2 e2 hl2 ⟨rs, hr2, sh2, zA⟩
  refine ⟨D, ys, rs, rfl, e2, sh2, by omega, fun l1 H3 zs s3 hl1 shA => ?_⟩
  have s13 := s2.trans s3
  refine ⟨_, rfl, _, _, rfl, rfl, _, rfl, by omega, by omega, fun D' hD' => ?_⟩
  refine comp_rangeR Rows hD' (big _ (by omega)) ⟨[], rfl, rfl, by intro r hr; cases hr⟩ ?_ ?_
  · rintro i ys' H4 k hi sm e ⟨rs', hl, sh, z98⟩ hk
    refine ⟨_, rfl, _, rfl, _, _, rfl, rfl, a, ns, _, rfl, (s13.trans sm).seq hS, by omega, _, _, rfl, rfl, _, rfl, _, _, rfl, rfl, _, rfl, _, _, rfl, ?_, k0, by omega, fun x H5 p s5 hx z => hk _ _ s5 ⟨rs' ++ [p], by simp [hl], shl_snoc s5 e sh hx, z98.snoc z⟩⟩
    have := bh_of (k := 1 + tn) (bg_getD hbg ((16 : Int) + (0 + (i : Int))).toNat) (by omega)
    rw [← Int.add_assoc] at this
    exact this
  rintro ys' H4 s4 e4 hl4 ⟨rs', hr4, sh4, zB⟩
  refine ⟨D', ys', rs', rfl, e4, sh4, by omega, fun l2 H5 zs' s5 hl2 shB => ?_⟩
  have s15 := s13.trans (s4.trans s5)
  have hl1' := s5 _ _ (s4 _ _ hl1)
  have shA' := shA.keep (s4.trans s5)
  refine ⟨Nat.zero_le _, fun F hF => ?_⟩
  have s6 := same_new hF (.lst [])
  obtain ⟨up1, len1, _⟩ := srt_up _ rs rfl
  obtain ⟨up2, len2, _⟩ := srt_up _ rs' rfl
  have smA := zA.srt
  have smB := zB.srt
  generalize hLs : srt rs = ls at *
  generalize hHs : srt rs' = hs at *
  have zl := shA'.len
  have zl' := shB.len
  refine ⟨_, rfl, _, rfl, l1, l2, rfl, ⟨_, SqL.of (s6 _ _ hl1')⟩, ⟨_, SqL.of (s6 _ _ hl2)⟩, ?_⟩
  obtain ⟨fl, hfl⟩ : ∃ fl : Bool, fl = false := ⟨false, rfl⟩
  refine for_zip (xs := zs) (ys := zs') (fun i σ H' => Same H5 H' ∧ ∃ ws v1 v2, σ = [some (.ref a), some (.int tn), some (.int (1 + ns.getD (0 : Int).toNat 0 % 12)), some (.int (ns.getD (1 : Int).toNat 0 % 5)), some (.ref l1), some (.ref l2), some (.ref F), v1, v2] ∧ H' F = some (.lst ws) ∧ RowP H' ((stz fl ls hs).take i) ws) ⟨s6, [], none, none, rfl, upd_same, rfl⟩ (by omega) ?_ ?_ ?_
  · rintro i σ H' hi ⟨sm, _⟩
    exact ⟨SqL.of (sm _ _ hl1'), SqL.of (sm _ _ hl2)⟩
  · rintro i x y U σ H6 hx hy hU ⟨sm, ws, v1, v2, rfl, hF6, rp⟩
    have hi : i < zs.length := (List.getElem?_eq_some_iff.mp hx).1
    obtain ⟨xa, ex, sx⟩ := (shA'.keep sm).get (List.getElem?_eq_getElem (show i < ls.length by omega))
    obtain ⟨ya, ey, sy⟩ := (shB.keep sm).get (List.getElem?_eq_getElem (show i < hs.length by omega))
    rw [hx] at ex; cases ex
    rw [hy] at ey; cases ey
    have sU := same_new hU (.tup [.ref xa, .ref ya])
    have sx' := sx.keep sU
    have sy' := sy.keep sU
    refine ⟨U, [.ref xa, .ref ya], rfl, SqT.of upd_same, rfl, .ref xa, [.ref ya], rfl, .ref ya, [], rfl, rfl, ?_⟩
    dsimp only
    refine seq_by (fun σ H' => H' = upd H6 U (.tup [.ref xa, .ref ya]) ∧ ∃ z, σ = [some (.ref a), some (.int tn), some (.int (1 + ns.getD (0 : Int).toNat 0 % 12)), some (.int (ns.getD (1 : Int).toNat 0 % 5)), some (.ref l1), some (.ref l2), some (.ref F), some (.ref xa), some (.ref z)] ∧ Shp H' z (hiF fl (ls[i]'(by omega)) (hs[i]'(by omega)))) ?_ ?_
    · intro M hM
      refine ⟨_, rfl, _, rfl, ya, xa, _, _, rfl, sy', sx', _, rfl, ?_⟩
      refine ite2 (fun c => ?_) (fun c => ?_)
      · have c' : hs[i]'(by omega) < ls[i]'(by omega) := of_decide_eq_true c
        refine ⟨_, rfl, hM _ _ ⟨rfl, xa, rfl, ?_⟩⟩
        unfold hiF
        rw [if_pos (.inl c')]
        exact sx'
      · have c' := ofD c
        refine hM _ _ ⟨rfl, ya, rfl, ?_⟩
        unfold hiF
        rw [if_neg (by
          rintro (z | z)
          · exact c' z
          · rw [hfl] at z; cases z)]
        exact sy'
    · rintro σ H7 ⟨rfl, z, rfl, sz⟩
      have hF7 := sU _ _ hF6
      have lw : ws.length ≤ 40 := by rw [rp.len]; unfold stz; simp; omega
      refine ⟨_, rfl, .inl ⟨rfl, _, SqL.of hF7⟩, _, rfl, _, rfl, (by show 2 ≤ sizeLine; decide), fun w hw => ?_⟩
      have sw := same_new hw (.tup [.ref xa, .ref z])
      refine ⟨F, ws, .ref w, rfl, rfl, sw _ _ hF7, lt40 lw, ?_⟩
      have nF : ∀ b o, H5 b = some o → b ≠ F := fun b o e => ne_of_none e hF
      refine ⟨fun b o e => by rw [upd_ne (nF b o e)]; exact sw _ _ (sU _ _ (sm _ _ e)), _, _, _, rfl, upd_same, ?_⟩
      have et : (stz fl ls hs).take (i + 1) = (stz fl ls hs).take i ++ [(ls[i]'(by omega), hiF fl (ls[i]'(by omega)) (hs[i]'(by omega)))] := by
        have : (stz fl ls hs)[i]? = some (ls[i]'(by omega), hiF fl (ls[i]'(by omega)) (hs[i]'(by omega))) := by
          unfold stz
          rw [List.getElem?_zipWith, List.getElem?_eq_getElem (show i < ls.length by omega), List.getElem?_eq_getElem (show i < hs.length by omega)]
        rw [List.take_add_one, this] <;> rfl
      rw [et]
      exact ((((rp.keep sU).keep sw).app (show RowP _ [_] [.ref w] from ⟨w, xa, z, [], rfl, upd_same, (sx'.keep sw), (sz.keep sw), rfl⟩))).write (sw _ _ hF7)
  · rintro σ H6 ⟨sm, ws, v1, v2, rfl, hF6, rp⟩
    refine ⟨_, rfl, _, rfl, F, ws, rfl, .inl ⟨SqL.of hF6, fun t ht => ⟨(by show 2 ≤ sizeLine; decide), fun x hx => ?_⟩⟩⟩
    have st := same_new ht (.tup ws)
    have sx := same_new hx (.tup [.int (1 + ns.getD (0 : Int).toNat 0 % 12), .ref t])
    have en : (1 : Int) + ns.getD (0 : Int).toNat 0 % 12 = (((1 : Int) + ns.getD (0 : Int).toNat 0 % 12).toNat : Int) := by omega
    have full : (stz fl ls hs).take zs.length = stz fl ls hs := List.take_of_length_le (by unfold stz; simp; omega)
    rw [full] at rp
    refine q x _ (stz fl ls hs) ((s15.trans sm).trans (st.trans sx)) ⟨⟨t, ws, by rw [upd_same, ← en], sx _ _ upd_same, (rp.keep st).keep sx⟩, stz_rule (by omega) (by omega) up1 up2 (by omega) (by omega)⟩
theorem Shp.fr {H : Hp} {a : Addr} {p : Rat} (h : Shp H a p) : FrA H a p := ⟨h.ob, h.sn.mono (by decide), h.sz.mono (by decide)⟩
def spUnd : Sp := fun vs H Q _ => ∃ f g r s, vs = [.ref f, .ref g] ∧ FrA H f r ∧ FrA H g s ∧ Q (.bl (decide (r < s))) H
theorem sc_und : FnScope ["one", "other"] ["one", "other"] (defScope s_und) := ⟨rfl, rfl, rfl, by decide +kernel, rfl, by decide +kernel, by decide +kernel⟩
theorem ok_und {f : Addr} {fd : FuncData} (F : Fun K "under" "under" s_und f fd) (T : Txt mg) : FnOk P w K mg base CX0 1 f fd ["one", "other"] spUnd := by
  refine F.ok sc_und (fun vs H Q E h => ?_) (fun cdv A outer s H vs Q E hr h => ?_)
  · obtain ⟨f, g, r, s, rfl, _⟩ := h
    rfl
  obtain ⟨f, g, r, s, rfl, t, u, q⟩ := h
  refine ⟨_, (pss_one (ps_ret (pe_cmpR op_lt (pe_op op_mulK (pe_ix ix_tup (pv 0) pe_int (fun _ _ => rfl)) (pe_ix ix_tup (pv 1) pe_int (fun _ _ => rfl))) (pe_op op_mulK (pe_ix ix_tup (pv 1) pe_int (fun _ _ => rfl)) (pe_ix ix_tup (pv 0) pe_int (fun _ _ => rfl))) (nomark _)))), ?_⟩
  refine ⟨_, rfl, f, _, 0, _, rfl, rfl, SqT.of t.ob, at0, _, rfl, g, _, 1, _, rfl, rfl, SqT.of u.ob, at1, _, _, rfl, rfl, ⟨t.st.smk (by decide), u.sb.smk (by decide)⟩, _, rfl, g, _, 0, _, rfl, rfl, SqT.of u.ob, at0, _, rfl, f, _, 1, _, rfl, rfl, SqT.of t.ob, at1, _, _, rfl, rfl, ⟨u.st.smk (by decide), t.sb.smk (by decide)⟩, _, _, rfl, rfl, ?_⟩
  have e : decide (r.num * (s.den : Int) < s.num * (r.den : Int)) = decide (r < s) := by
    by_cases c : r < s
    · rw [decide_eq_true c, decide_eq_true ((r_under r s).mpr c)]
    · rw [decide_eq_false c, decide_eq_false (fun z => c ((r_under r s).mp z))]
  show Q (.bl (decide (r.num * (s.den : Int) < s.num * (r.den : Int)))) H
  rw [e]
  exact q
theorem shp0 {H : Hp} {a : Addr} (h : H a = some (.tup [.int 0, .int 1])) : Shp H a 0 := ⟨h, by decide, by decide, by show (1 : Nat) < 2 ^ 256; decide⟩
theorem shp1 {H : Hp} {a : Addr} (h : H a = some (.tup [.int 1, .int 1])) : Shp H a 1 := ⟨h, by decide, by decide, by show (1 : Nat) < 2 ^ 256; decide⟩
abbrev lowsOf (ps : List (Rat × Rat)) : List Rat := ps.map (·.1)
abbrev highsOf (ps : List (Rat × Rat)) : List Rat := ps.map (·.2)
def runOf (ps : List (Rat × Rat)) (a b : Rat) : Option (Nat × Nat) := if lower b (highsOf ps) < upto a (lowsOf ps) then some (lower b (highsOf ps), upto a (lowsOf ps) - 1) else none
def RunV (H : Hp) : Option (Nat × Nat) → V → Prop
  | none, v => v = .non
  | some r, v => ∃ t, v = .ref t ∧ H t = some (.tup [.int (r.1 : Int), .int (r.2 : Int)])
theorem RunV.keep {H H' : Hp} (s : Same H H') : ∀ {r : Option (Nat × Nat)} {v : V}, RunV H r v → RunV H' r v
  | none, _, h => h
  | some _, _, ⟨t, e, h⟩ => ⟨t, e, s _ _ h⟩
theorem lower_cnt {r : Rat} : ∀ {l : List Rat}, Up l → (l.filter fun x => decide (x < r)).length = lower r l
  | [], _ => rfl
  | x :: l, u => by
    by_cases c : x < r
    · have e : (x :: l).filter (fun x => decide (x < r)) = x :: l.filter (fun x => decide (x < r)) := by simp [c]
      rw [e, List.length_cons, lower_cnt (List.pairwise_cons.mp u).2, lower, if_pos c]
    · have e : (x :: l).filter (fun x => decide (x < r)) = l.filter (fun x => decide (x < r)) := by simp [c]
      rw [e, lower, if_neg c]
      have : l.filter (fun x => decide (x < r)) = [] := by
        apply List.filter_eq_nil_iff.mpr
        intro y hy
        have := (List.pairwise_cons.mp u).1 y hy
        simp
        grind
      rw [this] <;> rfl
theorem cnt_highs {ps : List (Rat × Rat)} (u : Up (highsOf ps)) (b : Rat) : (ps.filter fun h => decide (h.2 < b)).length = lower b (highsOf ps) := by
  rw [← lower_cnt u]
  unfold highsOf
  rw [List.filter_map, List.length_map] <;> rfl
theorem cnt_lows {ps : List (Rat × Rat)} (u : Up (lowsOf ps)) (a : Rat) : (ps.filter fun h => !decide (a < h.1)).length = upto a (lowsOf ps) := by
  rw [← upto_cnt u]
  unfold lowsOf
  rw [List.filter_map, List.length_map]
  congr 1
  apply List.filter_congr
  intro x _
  by_cases c : a < x.1
  · have : ¬ x.1 ≤ a := by grind
    simp [c, this]
  · have : x.1 ≤ a := by grind
    simp [c, this]
def spRov : Sp := fun vs H Q _ => ∃ (x : Addr) (n : Nat) (ps : List (Rat × Rat)) (a b : Addr) (ra rb : Rat), vs = [.ref x, .ref a, .ref b] ∧ RuleAt H x n ps ∧ Shp H a ra ∧ Shp H b rb ∧ ∀ v H', Same H H' → RunV H' (runOf ps ra rb) v → Q v H'
theorem sc_rov : FnScope ["rule", "a", "b", "first", "last"] ["rule", "a", "b"] (defScope s_rov) := ⟨rfl, rfl, rfl, by decide +kernel, rfl, by decide +kernel, by decide +kernel⟩
theorem ok_rov {f : Addr} {fd : FuncData} (F : Fun K "run_over" "run_over" s_rov f fd) (T : Txt mg) {fund : Addr} {dund : FuncData} (Gund : FnOk P w K mg base CX0 1 fund dund ["one", "other"] spUnd) (bund : Binds K dund ["one", "other"] []) (kund : PySem.W.keepIn K (.ref fund) = true) (mund : mg "under" = some (.ref fund)) : FnOk P w K mg base CX0 2 f fd ["rule", "a", "b"] spRov := by
  refine F.ok sc_rov (fun vs H Q E h => ?_) (fun cdv A outer s H vs Q E hr h => ?_)
  · obtain ⟨x, n, ps, a, b, ra, rb, rfl, _⟩ := h
    rfl
  obtain ⟨x, n, ps, a, b, ra, rb, rfl, ⟨⟨t, zs, hx, ht, row⟩, ok⟩, sa, sb, q⟩ := h
  refine ⟨_, (pss_cons (ps_set (i := 3) sc_rov.nd rfl (Or.inl rfl) (pe_callB call_len_seq rfl T.len boot_len (pa_cons (pe_compG (xs := ["low", "high"]) (ts := [("b", 2)]) rfl ⟨rfl, sub1 rfl, rfl, rfl, rfl, by decide +kernel, rfl, rfl⟩ (pi_tup (pe_ix ix_tup (pv 0) pe_int (fun _ _ => rfl))) (fun C s3 H3 fp => (pg_tupC (n := 2) rfl (pgs_cons (pg_name (i := 0) (show (["low", "high", "b"] : List Str).Nodup by decide +kernel) rfl (Or.inl rfl) (Or.inr rfl)) (pgs_cons (pg_name (i := 1) (show (["low", "high", "b"] : List Str).Nodup by decide +kernel) rfl (Or.inl rfl) (Or.inr rfl)) pgs_nil)))) (fun C s3 H3 fp => (pif_one (pt_val (pe_call Gund hr rfl mund kund bund .nil pass0 (pa_cons (pv 1) (pa_cons (pv 2) pa_nil)))))) (fun C s3 H3 fp => (pv 1))) pa_nil)))
    (pss_cons (ps_set (i := 4) sc_rov.nd rfl (Or.inl rfl) (pe_op op_sub (pe_callB call_len_seq rfl T.len boot_len (pa_cons (pe_compG (xs := ["low", "high"]) (ts := [("a", 1)]) rfl ⟨rfl, sub1 rfl, rfl, rfl, rfl, by decide +kernel, rfl, rfl⟩ (pi_tup (pe_ix ix_tup (pv 0) pe_int (fun _ _ => rfl))) (fun C s3 H3 fp => (pg_tupC (n := 2) rfl (pgs_cons (pg_name (i := 0) (show (["low", "high", "a"] : List Str).Nodup by decide +kernel) rfl (Or.inl rfl) (Or.inr rfl)) (pgs_cons (pg_name (i := 1) (show (["low", "high", "a"] : List Str).Nodup by decide +kernel) rfl (Or.inl rfl) (Or.inr rfl)) pgs_nil)))) (fun C s3 H3 fp => (pif_one (pt_not (pt_val (pe_call Gund hr rfl mund kund bund .nil pass0 (pa_cons (pv 2) (pa_cons (pv 0) pa_nil))))))) (fun C s3 H3 fp => (pv 0))) pa_nil)) pe_int))
    (pss_cons (ps_if (pt_cmpR op_gt (pv 3) (pv 4) (nomark _)) (pss_one (ps_ret pe_non)) pss_nil)
    (pss_one (ps_ret (pe_tup (pa_cons (pv 3) (pa_cons (pv 4) pa_nil)))))))), ?_⟩
  have lz := row.len
  have l13 := ok.len
  have n12 := ok.n12
  have big : zs.length ≤ sizeLine := Nat.le_trans (show zs.length ≤ 40 by omega) (by decide)
  refine ⟨_, rfl, x, _, 1, _, rfl, rfl, SqT.of hx, at1, t, rfl, ⟨_, SqT.of ht⟩, fun D hD => ?_⟩
  refine comp_pairF ps (fun h => decide (h.2 < rb)) (fun h u v => ∃ la ha, u = .ref la ∧ v = .ref ha ∧ Shp H la h.1 ∧ Shp H ha h.2) hD (SqT.of ht) (by omega) big ?_ ?_ ?_ ?_
  · intro i h e
    obtain ⟨c, la, ha, e1, e2, e3, e4⟩ := row.get e
    exact ⟨c, _, _, e1, e2, la, ha, rfl, rfl, e3, e4⟩
  · rintro h u v H2 k ⟨la, ha, rfl, rfl, s1, s2⟩ sm hk
    exact ⟨_, rfl, _, rfl, ha, b, _, _, rfl, (s2.keep sm).fr, (sb.keep sm).fr, _, rfl, hk H2 (Same.refl H2)⟩
  · rintro h u v H2 k ⟨la, ha, rfl, rfl, s1, s2⟩ sm hk
    exact ⟨_, rfl, hk _ _ (Same.refl H2)⟩
  intro H1 ys s1 hD1 hl1
  rw [cnt_highs ok.highs] at hl1
  refine ⟨D, ys, rfl, .inl (SqL.of hD1), ?_⟩
  rw [hl1]
  refine ⟨_, rfl, x, _, 1, _, rfl, rfl, SqT.of (s1 _ _ hx), at1, t, rfl, ⟨_, SqT.of (s1 _ _ ht)⟩, fun D' hD' => ?_⟩
  refine comp_pairF ps (fun h => !decide (ra < h.1)) (fun h u v => ∃ la ha, u = .ref la ∧ v = .ref ha ∧ Shp H la h.1 ∧ Shp H ha h.2) hD' (SqT.of (s1 _ _ ht)) (by omega) big ?_ ?_ ?_ ?_
  · intro i h e
    obtain ⟨c, la, ha, e1, e2, e3, e4⟩ := row.get e
    exact ⟨c, _, _, e1, s1 _ _ e2, la, ha, rfl, rfl, e3, e4⟩
  · rintro h u v H2 k ⟨la, ha, rfl, rfl, t1, t2⟩ sm hk
    exact ⟨_, rfl, _, rfl, a, la, _, _, rfl, (sa.keep (s1.trans sm)).fr, (t1.keep (s1.trans sm)).fr, _, rfl, hk H2 (Same.refl H2)⟩
  · rintro h u v H2 k ⟨la, ha, rfl, rfl, t1, t2⟩ sm hk
    exact ⟨_, rfl, hk _ _ (Same.refl H2)⟩
  intro H2 ys' s2 hD2 hl2
  rw [cnt_lows ok.lows] at hl2
  refine ⟨D', ys', rfl, .inl (SqL.of hD2), _, _, rfl, rfl, ?_⟩
  rw [hl2]
  refine ⟨_, rfl, _, rfl, _, _, rfl, rfl, _, rfl, ?_⟩
  refine ite2 (fun c => ?_) (fun c => ?_)
  · have c' : (upto ra (lowsOf ps) : Int) - 1 < (lower rb (highsOf ps) : Int) := of_decide_eq_true c
    refine q _ _ (s1.trans s2) ?_
    unfold runOf
    rw [if_neg (by omega)] <;> rfl
  · have c' := ofD c
    refine ⟨_, rfl, _, rfl, (by show 2 ≤ sizeLine; decide), fun r hr' => q _ _ ((s1.trans s2).trans (same_new hr' _)) ?_⟩
    unfold runOf
    rw [if_pos (by omega)]
    refine ⟨r, rfl, ?_⟩
    rw [upd_same]
    have e : ((upto ra (lowsOf ps) : Int) - 1) = ((upto ra (lowsOf ps) - 1 : Nat) : Int) := by omega
    show some (HO.tup [V.int _, V.int ((upto ra (lowsOf ps) : Int) - 1)]) = _
    rw [e]
def spHeld : Sp := fun vs H Q _ => ∃ (x : Addr) (n : Nat) (ps : List (Rat × Rat)) (a : Addr) (r : Rat), vs = [.ref x, .ref a] ∧ RuleAt H x n ps ∧ Shp H a r ∧ ∀ v H', Same H H' → RunV H' (runOf ps r r) v → Q v H'
theorem sc_held : FnScope ["rule", "p"] ["rule", "p"] (defScope s_held) := ⟨rfl, rfl, rfl, by decide +kernel, rfl, by decide +kernel, by decide +kernel⟩
theorem ok_held {f : Addr} {fd : FuncData} (F : Fun K "held" "held" s_held f fd) (T : Txt mg) {frov : Addr} {drov : FuncData} (Grov : FnOk P w K mg base CX0 2 frov drov ["rule", "a", "b"] spRov) (brov : Binds K drov ["rule", "a", "b"] []) (krov : PySem.W.keepIn K (.ref frov) = true) (mrov : mg "run_over" = some (.ref frov)) : FnOk P w K mg base CX0 3 f fd ["rule", "p"] spHeld := by
  refine F.ok sc_held (fun vs H Q E h => ?_) (fun cdv A outer s H vs Q E hr h => ?_)
  · obtain ⟨x, n, ps, a, r, rfl, _⟩ := h
    rfl
  obtain ⟨x, n, ps, a, r, rfl, hx, sa, q⟩ := h
  refine ⟨_, (pss_one (ps_ret (pe_call Grov hr rfl mrov krov brov .nil pass0 (pa_cons (pv 0) (pa_cons (pv 1) (pa_cons (pv 1) pa_nil)))))), ?_⟩
  exact ⟨_, rfl, _, rfl, _, rfl, x, n, ps, a, a, r, r, rfl, hx, sa, sa, q⟩
def rimL (ps : List (Rat × Rat)) : List Rat := 0 :: 1 :: ps.flatMap fun p => [p.1, p.2]
theorem rimL_len (ps : List (Rat × Rat)) : (rimL ps).length = 2 + 2 * ps.length := by
  unfold rimL
  induction ps with
  | nil => rfl
  | cons p ps ih => simp only [List.flatMap_cons, List.length_cons, List.length_append, List.length_nil] at ih ⊢; omega
theorem rimL_snoc (ps : List (Rat × Rat)) (p : Rat × Rat) : rimL (ps ++ [p]) = rimL ps ++ [p.1, p.2] := by
  unfold rimL
  rw [List.flatMap_append] <;> rfl
theorem prs_of {H : Hp} : ∀ {rs : List Rat} {xs : List V}, ShL H rs xs → Prs H (rs.map fun r => (r.num, (r.den : Int))) xs
  | [], _, h => h
  | _ :: _, _, ⟨a, ys, e, h1, h2⟩ => ⟨a, ys, e, h1.ob, prs_of h2⟩
theorem any_mem (rs : List Rat) (r : Rat) : ((rs.map fun r => (r.num, (r.den : Int))).any fun w => decide (w = (r.num, (r.den : Int)))) = decide (r ∈ rs) := by
  rw [Bool.eq_iff_iff, List.any_eq_true, decide_eq_true_iff]
  constructor
  · rintro ⟨w, hw, e⟩
    obtain ⟨s, hs, rfl⟩ := List.mem_map.mp hw
    have e' := of_decide_eq_true e
    simp only [Prod.mk.injEq] at e'
    rw [← r_same e'.1 e'.2]
    exact hs
  · intro h
    exact ⟨_, List.mem_map.mpr ⟨r, h, rfl⟩, decide_eq_true rfl⟩
def spEdges : Sp := fun vs H Q _ => ∃ (x : Addr) (n : Nat) (ps : List (Rat × Rat)), vs = [.ref x] ∧ RuleAt H x n ps ∧ ∀ l H' ws, H l = none → Same H H' → H' l = some (.lst ws) → ShL H' (edg (rimL ps)) ws → Q (.ref l) H'
theorem sc_edges : FnScope ["rule", "ends", "stretch", "told", "end", "place"] ["rule"] (defScope s_edges) := ⟨rfl, rfl, rfl, by decide +kernel, rfl, by decide +kernel, by decide +kernel⟩
theorem ok_edges {f : Addr} {fd : FuncData} (F : Fun K "edges" "edges" s_edges f fd) (T : Txt mg) {fund : Addr} {dund : FuncData} (Gund : FnOk P w K mg base CX0 1 fund dund ["one", "other"] spUnd) (bund : Binds K dund ["one", "other"] []) (kund : PySem.W.keepIn K (.ref fund) = true) (mund : mg "under" = some (.ref fund)) : FnOk P w K mg base CX0 2 f fd ["rule"] spEdges := by
  refine F.ok sc_edges (fun vs H Q E h => ?_) (fun cdv A outer s H vs Q E hr h => ?_)
  · obtain ⟨x, n, ps, rfl, _⟩ := h
    rfl
  obtain ⟨x, n, ps, rfl, ⟨⟨t, zs, hx, ht, row⟩, ok⟩, q⟩ := h
  refine ⟨_, (pss_cons (ps_set (i := 1) sc_edges.nd rfl (Or.inl rfl) (pe_lst (pa_cons (pe_tup (pa_cons pe_int (pa_cons pe_int pa_nil))) (pa_cons (pe_tup (pa_cons pe_int (pa_cons pe_int pa_nil))) pa_nil))))
    (pss_cons (ps_for PassesOwn.never rfl (pi_tup (pe_ix ix_tup (pv 0) pe_int (fun _ _ => rfl))) (pg_name (i := 2) sc_edges.nd rfl (Or.inl rfl)) (pss_one (ps_expr (pe_bm PySem.F.plainAttrs_list PySem.F.slot_list_extend PySem.F.type_list_extend mt_extendT (pv 1) (pa_cons (pv 2) pa_nil)))))
    (pss_cons (ps_set (i := 3) sc_edges.nd rfl (Or.inl rfl) (pe_lst pa_nil))
    (pss_cons (ps_for PassesOwn.never rfl (pi_list (pv 1)) (pg_name (i := 4) sc_edges.nd rfl (Or.inr rfl)) (pss_one (ps_if (pt_cmpR (op_notInP hr.units) (pv 4) (pv 3) (by with_unfolding_all rfl)) (pss_cons (ps_set (i := 5) sc_edges.nd rfl (Or.inl rfl) (pe_callB call_len_seq rfl T.len boot_len (pa_cons (pe_compG (xs := ["edge"]) (ts := [("end", 4)]) rfl ⟨rfl, sub1 rfl, rfl, rfl, rfl, by decide +kernel, rfl, rfl⟩ (pi_list (pv 3)) (fun C s3 H3 fp => (pg_name (i := 0) (show (["edge", "end"] : List Str).Nodup by decide +kernel) rfl (Or.inl rfl) (Or.inr rfl))) (fun C s3 H3 fp => (pif_one (pt_val (pe_call Gund hr rfl mund kund bund .nil pass0 (pa_cons (pv 0) (pa_cons (pv 1) pa_nil)))))) (fun C s3 H3 fp => (pv 0))) pa_nil)))
        (pss_one (ps_expr (pe_bm PySem.F.plainAttrs_list PySem.F.slot_list_insert PySem.F.type_list_insert mt_insert (pv 3) (pa_cons (pv 5) (pa_cons (pv 4) pa_nil)))))) pss_nil)))
    (pss_one (ps_ret (pv 3))))))), ?_⟩
  have lz := row.len
  have l13 := ok.len
  have n12 := ok.n12
  refine ⟨(by show 2 ≤ sizeLine; decide), fun a0 h0 => ⟨(by show 2 ≤ sizeLine; decide), fun a1 h1 => ⟨(by show 2 ≤ sizeLine; decide), fun l hl => ?_⟩⟩⟩
  have s0 := same_new h0 (.tup [V.int 0, V.int 1])
  have s1 := same_new h1 (.tup [V.int 1, V.int 1])
  have s2 := same_new hl (.lst [V.ref a0, V.ref a1])
  have s02 := (s0.trans s1).trans s2
  have p0 := ((shp0 (H := upd H a0 (.tup [V.int 0, V.int 1])) upd_same).keep s1).keep s2
  have p1 := (shp1 (H := upd (upd H a0 (.tup [V.int 0, V.int 1])) a1 (.tup [V.int 1, V.int 1])) upd_same).keep s2
  refine ⟨_, rfl, x, _, 1, _, rfl, rfl, SqT.of (s02 _ _ hx), at1, t, rfl, ⟨_, SqT.of (s02 _ _ ht)⟩, ?_⟩
  have hln : H l = none := by
    cases e : H l with
    | none => rfl
    | some o => rw [s1 _ _ (s0 _ _ e)] at hl; cases hl
  refine for_tup (xs := zs) (fun i σ H' => Same H H' ∧ ∃ ws v1 v2 v3 v4, σ = [some (.ref x), some (.ref l), v1, v2, v3, v4] ∧ H' l = some (.lst ws) ∧ ShL H' (rimL (ps.take i)) ws) ⟨s02, _, none, none, none, none, rfl, upd_same, a0, _, rfl, p0, a1, _, rfl, p1, rfl⟩ ?_ ?_ ?_
  · rintro i σ H' hi ⟨sm, _⟩
    exact SqT.of (sm _ _ ht)
  · rintro i z σ H' hz ⟨sm, ws, v1, v2, v3, v4, rfl, hl', shw⟩
    have hi : i < ps.length := by rw [← lz]; exact (List.getElem?_eq_some_iff.mp hz).1
    have ep := List.getElem?_eq_getElem hi
    obtain ⟨d, la, ha, e1, e2, e3, e4⟩ := (row.keep sm).get ep
    rw [hz] at e1
    cases e1
    have lw := shw.len
    rw [rimL_len] at lw
    have lt : (ps.take i).length = i := by simp; omega
    refine ⟨_, rfl, .inl ⟨rfl, _, SqL.of hl'⟩, _, rfl, l, d, ws, _, rfl, rfl, hl', e2, Nat.le_trans (show _ ≤ 60 by simp; omega) (by decide), ?_⟩
    refine ⟨same_write sm hln, _, _, _, _, _, rfl, upd_same, ?_⟩
    rw [List.take_add_one, ep]
    show ShL _ (rimL (ps.take i ++ [ps[i]])) _
    rw [rimL_snoc]
    exact (shw.app (show ShL _ [_, _] [.ref la, .ref ha] from ⟨la, _, rfl, e3, ha, _, rfl, e4, rfl⟩)).write hl'
  rintro σ H1 ⟨sm1, ws, v1, v2, v3, v4, rfl, hl1, shw⟩
  rw [List.take_of_length_le (by omega)] at shw
  have lw := shw.len
  have lr := rimL_len ps
  refine ⟨Nat.zero_le _, fun m hm => ?_⟩
  have s3 := same_new hm (.lst [])
  have sm2 := sm1.trans s3
  have hmn : H m = none := by
    cases e : H m with
    | none => rfl
    | some o => rw [sm1 _ _ e] at hm; cases hm
  have nml : m ≠ l := fun e => by rw [e, hl1] at hm; cases hm
  refine ⟨_, rfl, l, rfl, ⟨_, SqL.of (s3 _ _ hl1)⟩, ?_⟩
  refine for_list (xs := ws) (fun i σ H' => Same H H' ∧ ∃ us v1 v3 v4, σ = [some (.ref x), some (.ref l), v1, some (.ref m), v3, v4] ∧ H' l = some (.lst ws) ∧ ShL H' (rimL ps) ws ∧ H' m = some (.lst us) ∧ ShL H' (edg ((rimL ps).take i)) us) ⟨sm2, [], v1, v3, v4, rfl, s3 _ _ hl1, shw.keep s3, upd_same, rfl⟩ ?_ ?_ ?_
  · rintro i σ H' hi ⟨sm, us, u1, u3, u4, rfl, hl', _⟩
    exact SqL.of hl'
  · rintro i z σ H' hz ⟨sm, us, u1, u3, u4, rfl, hl', shl', hm', shu⟩
    have hi : i < (rimL ps).length := by rw [← lw]; exact (List.getElem?_eq_some_iff.mp hz).1
    have ep := List.getElem?_eq_getElem hi
    obtain ⟨b, e1, sb⟩ := shl'.get ep
    rw [hz] at e1
    cases e1
    generalize (rimL ps)[i] = r at *
    have tk : (rimL ps).take (i + 1) = (rimL ps).take i ++ [r] := by rw [List.take_add_one, ep]; rfl
    have lu := shu.len
    have l40 : us.length ≤ 40 := by
      rw [lu]
      exact Nat.le_trans (edg_len _) (by simp; omega)
    obtain ⟨inc, _⟩ := edg_ok ((rimL ps).take i)
    rw [tk, edg_snoc]
    generalize edg ((rimL ps).take i) = acc at *
    refine ⟨_, rfl, _, rfl, m, us, _, b, (r.num, (r.den : Int)), rfl, rfl, SqL.of hm', prs_of shu, sb.ob, _, rfl, ?_⟩
    rw [any_mem]
    by_cases c : r ∈ acc
    · rw [decide_eq_true c]
      refine iteF ⟨sm, us, _, _, _, rfl, hl', shl', hm', ?_⟩
      unfold addE
      rw [if_pos c]
      exact shu
    · rw [decide_eq_false c]
      refine iteT ?_
      refine ⟨_, rfl, m, rfl, ⟨_, SqL.of hm'⟩, fun D hD => ?_⟩
      refine comp_listC acc (fun h => decide (h < r)) (fun h u => ∃ a, u = .ref a ∧ Shp H' a h) hD (SqL.of hm') (by omega) (Nat.le_of_lt (lt40 l40)) ?_ ?_ ?_ ?_
      · intro j h e
        obtain ⟨a, f1, f2⟩ := shu.get e
        exact ⟨_, f1, a, rfl, f2⟩
      · rintro h u H2 k ⟨a, rfl, sa⟩ s4 hk
        exact ⟨_, rfl, _, rfl, a, b, _, _, rfl, (sa.keep s4).fr, (sb.keep s4).fr, _, rfl, hk H2 (Same.refl H2)⟩
      · rintro h u H2 k ⟨a, rfl, sa⟩ s4 hk
        exact ⟨_, rfl, hk _ _ (Same.refl H2)⟩
      intro H2 ys s4 hD2 hly
      rw [lower_cnt inc.up] at hly
      have hm2 := s4 _ _ hm'
      have hl2 := s4 _ _ hl'
      have shu2 := shu.keep s4
      have sb2 := sb.keep s4
      refine ⟨D, ys, rfl, .inl (SqL.of hD2), ?_⟩
      rw [hly]
      have le := lower_le r acc
      refine ⟨_, rfl, .inl ⟨rfl, _, SqL.of hm2⟩, _, rfl, _, rfl, m, us, (lower r acc : Int), .ref b, rfl, rfl, hm2, by omega, by omega, lt40 l40, ?_⟩
      have ek : ((lower r acc : Int)).toNat = lower r acc := rfl
      rw [ek]
      refine ⟨same_write (sm.trans s4) hmn, _, _, _, _, rfl, by rw [upd_ne (Ne.symm nml)]; exact hl2, (shl'.keep s4).write hm2, upd_same, ?_⟩
      unfold addE
      rw [if_neg c]
      unfold insR
      have z := ((shu2.take (lower r acc)).app (show ShL _ [r] [.ref b] from ⟨b, [], rfl, sb2, rfl⟩)).app (shu2.drop (lower r acc))
      have z' := z.write (l := m) (zs := us) hm2 (ws := us.take (lower r acc) ++ .ref b :: us.drop (lower r acc))
      rw [List.append_assoc, List.append_assoc] at z'
      exact z'
  · rintro σ H' ⟨sm, us, u1, u3, u4, rfl, hl', shl', hm', shu⟩
    rw [lw, List.take_length] at shu
    exact ⟨_, rfl, q m H' us hmn sm hm' shu⟩
def wiB (p q : Rat × Rat) : Bool := !decide (p.1 < q.1) && !decide (q.2 < p.2)
def wiL : List (Rat × Rat) → List (Rat × Rat) → Bool
  | p :: ps, q :: qs => wiB p q && wiL ps qs
  | _, _ => true
theorem wiL_at : ∀ {ps qs : List (Rat × Rat)} {i : Nat} {p q : Rat × Rat}, wiL ps qs = true → ps[i]? = some p → qs[i]? = some q → wiB p q = true
  | p0 :: ps, q0 :: qs, 0, p, q, h, e1, e2 => by
    rw [List.getElem?_cons_zero] at e1 e2
    cases e1; cases e2
    rw [wiL, Bool.and_eq_true] at h
    exact h.1
  | p0 :: ps, q0 :: qs, i + 1, p, q, h, e1, e2 => by
    rw [List.getElem?_cons_succ] at e1 e2
    rw [wiL, Bool.and_eq_true] at h
    exact wiL_at h.2 e1 e2
theorem wiL_false : ∀ {ps qs : List (Rat × Rat)} {i : Nat} {p q : Rat × Rat}, ps[i]? = some p → qs[i]? = some q → wiB p q = false → wiL ps qs = false
  | p0 :: ps, q0 :: qs, 0, p, q, e1, e2, h => by
    rw [List.getElem?_cons_zero] at e1 e2
    cases e1; cases e2
    rw [wiL, h, Bool.false_and]
  | p0 :: ps, q0 :: qs, i + 1, p, q, e1, e2, h => by
    rw [List.getElem?_cons_succ] at e1 e2
    rw [wiL, wiL_false e1 e2 h, Bool.and_false]
theorem wiL_true : ∀ {ps qs : List (Rat × Rat)}, (∀ (i : Nat) (p q : Rat × Rat), ps[i]? = some p → qs[i]? = some q → wiB p q = true) → wiL ps qs = true
  | [], _, _ => by simp [wiL]
  | _ :: _, [], _ => by simp [wiL]
  | p :: ps, q :: qs, h => by
    rw [wiL, Bool.and_eq_true]
    exact ⟨h 0 p q rfl rfl, wiL_true fun i p' q' e1 e2 => h (i + 1) p' q' (by simpa using e1) (by simpa using e2)⟩
theorem wiB_iff {p q : Rat × Rat} : wiB p q = true ↔ q.1 ≤ p.1 ∧ p.2 ≤ q.2 := by
  unfold wiB
  rw [Bool.and_eq_true, Bool.not_eq_true', Bool.not_eq_true', decide_eq_false_iff_not, decide_eq_false_iff_not]
  constructor
  · rintro ⟨a, b⟩
    exact ⟨by grind, by grind⟩
  · rintro ⟨a, b⟩
    exact ⟨by grind, by grind⟩
def spWith : Sp := fun vs H Q _ => ∃ (x y : Addr) (n : Nat) (ps qs : List (Rat × Rat)), vs = [.ref x, .ref y] ∧ RuleAt H x n ps ∧ RuleAt H y n qs ∧ ∀ H', Same H H' → Q (.bl (wiL ps qs)) H'
theorem sc_with : FnScope ["one", "other", "inner", "outer"] ["one", "other"] (defScope s_with) := ⟨rfl, rfl, rfl, by decide +kernel, rfl, by decide +kernel, by decide +kernel⟩
theorem ok_with {f : Addr} {fd : FuncData} (F : Fun K "is_within" "is_within" s_with f fd) (T : Txt mg) {fund : Addr} {dund : FuncData} (Gund : FnOk P w K mg base CX0 1 fund dund ["one", "other"] spUnd) (bund : Binds K dund ["one", "other"] []) (kund : PySem.W.keepIn K (.ref fund) = true) (mund : mg "under" = some (.ref fund)) : FnOk P w K mg base CX0 2 f fd ["one", "other"] spWith := by
  refine F.ok sc_with (fun vs H Q E h => ?_) (fun cdv A outer s H vs Q E hr h => ?_)
  · obtain ⟨x, y, n, ps, qs, rfl, _⟩ := h
    rfl
  obtain ⟨x, y, n, ps, qs, rfl, ⟨⟨t, zs, hx, ht, row⟩, ok⟩, ⟨⟨t', zs', hy, ht', row'⟩, ok'⟩, q⟩ := h
  refine ⟨_, (pss_cons (ps_for PassesOwn.never rfl (pi_zipT rfl T.zip (pa_cons (pe_ix ix_tup (pv 0) pe_int (fun _ _ => rfl)) (pa_cons (pe_ix ix_tup (pv 1) pe_int (fun _ _ => rfl)) pa_nil))) (pg_tup rfl (pgs_cons (pg_name (i := 2) sc_with.nd rfl (Or.inl rfl)) (pgs_cons (pg_name (i := 3) sc_with.nd rfl (Or.inl rfl)) pgs_nil))) (pss_one (ps_if (PW.pt (pw_or (pt_val (pe_call Gund hr rfl mund kund bund .nil pass0 (pa_cons (pe_ix ix_tup (pv 2) pe_int (fun _ _ => rfl)) (pa_cons (pe_ix ix_tup (pv 3) pe_int (fun _ _ => rfl)) pa_nil)))) (pw_or1 (pt_val (pe_call Gund hr rfl mund kund bund .nil pass0 (pa_cons (pe_ix ix_tup (pv 3) pe_int (fun _ _ => rfl)) (pa_cons (pe_ix ix_tup (pv 2) pe_int (fun _ _ => rfl)) pa_nil))))))) (pss_one (ps_ret pe_bl)) pss_nil)))
    (pss_one (ps_ret pe_bl))), ?_⟩
  have lz := row.len
  have lz' := row'.len
  have l1 := ok.len
  have l2 := ok'.len
  refine ⟨_, rfl, x, _, 1, _, rfl, rfl, SqT.of hx, at1, _, rfl, y, _, 1, _, rfl, rfl, SqT.of hy, at1, t, t', rfl, ⟨_, SqT.of ht⟩, ⟨_, SqT.of ht'⟩, ?_⟩
  refine for_zipT (n := n + 1) (xs := zs) (ys := zs') (fun i σ H' => Same H H' ∧ (∃ v1 v2, σ = [some (.ref x), some (.ref y), v1, v2]) ∧ ∀ (j : Nat), j < i → ∀ (p q : Rat × Rat), ps[j]? = some p → qs[j]? = some q → wiB p q = true) ⟨Same.refl H, ⟨none, none, rfl⟩, fun j hj => by omega⟩ (by omega) (by omega) (.inl (by omega)) ?_ ?_ ?_
  · rintro i σ H' hi ⟨sm, _⟩
    exact ⟨SqT.of (sm _ _ ht), SqT.of (sm _ _ ht')⟩
  · rintro i u v U σ H' hi hu hv hU ⟨sm, ⟨v1, v2, rfl⟩, hj⟩
    have ep := List.getElem?_eq_getElem (show i < ps.length by omega)
    have eq := List.getElem?_eq_getElem (show i < qs.length by omega)
    obtain ⟨b, la, ha, f1, f2, f3, f4⟩ := (row.keep sm).get ep
    obtain ⟨b', la', ha', g1, g2, g3, g4⟩ := (row'.keep sm).get eq
    rw [hu] at f1
    cases f1
    rw [hv] at g1
    cases g1
    have sU := same_new hU (.tup [.ref b, .ref b'])
    have f2' := sU _ _ f2
    have g2' := sU _ _ g2
    have smU := sm.trans sU
    refine ⟨U, _, rfl, SqT.of upd_same, rfl, .ref b, [.ref b'], rfl, .ref b', [], rfl, rfl, ?_⟩
    refine ⟨_, rfl, b, _, 0, _, rfl, rfl, SqT.of f2', at0, _, rfl, b', _, 0, _, rfl, rfl, SqT.of g2', at0, la, la', _, _, rfl, (f3.keep sU).fr, (g3.keep sU).fr, _, rfl, ?_⟩
    by_cases c1 : ps[i].1 < qs[i].1
    · rw [decide_eq_true c1]
      refine iteT (iteT ?_)
      have e : wiL ps qs = false := wiL_false ep eq (by unfold wiB; rw [decide_eq_true c1]; rfl)
      have := q _ smU
      rw [e] at this
      exact this
    · rw [decide_eq_false c1]
      refine iteF ?_
      refine ⟨_, rfl, b', _, 1, _, rfl, rfl, SqT.of g2', at1, _, rfl, b, _, 1, _, rfl, rfl, SqT.of f2', at1, ha', ha, _, _, rfl, (g4.keep sU).fr, (f4.keep sU).fr, _, rfl, ?_⟩
      by_cases c2 : qs[i].2 < ps[i].2
      · rw [decide_eq_true c2]
        refine iteT ?_
        have e : wiL ps qs = false := wiL_false ep eq (by unfold wiB; rw [decide_eq_true c2, Bool.not_true, Bool.and_false])
        have := q _ smU
        rw [e] at this
        exact this
      · rw [decide_eq_false c2]
        refine iteF ⟨smU, ⟨_, _, rfl⟩, fun j hj' p q' e1 e2 => ?_⟩
        by_cases z : j < i
        · exact hj j z p q' e1 e2
        · have : j = i := by omega
          subst this
          rw [ep] at e1
          rw [eq] at e2
          cases e1; cases e2
          unfold wiB
          rw [decide_eq_false c1, decide_eq_false c2] <;> rfl
  · rintro σ H' ⟨sm, ⟨v1, v2, rfl⟩, hj⟩
    have e : wiL ps qs = true := wiL_true fun i p q' e1 e2 => hj i (by have := (List.getElem?_eq_some_iff.mp e1).1; omega) p q' e1 e2
    have := q _ sm
    rw [e] at this
    exact this
theorem sc_due : FnScope ["_law_one", "_law_other", "_law_mine", "_law_yours"] ["_law_one", "_law_other"] (defScope s_due) := ⟨rfl, rfl, rfl, by decide +kernel, rfl, by decide +kernel, by decide +kernel⟩
theorem ok_due {f : Addr} {fd : FuncData} (F : Fun K "_law_due" "_law_due" s_due f fd) (T : Txt mg) {fless : Addr} {dless : FuncData} (Gless : FnOk P w K mg base CX0 1 fless dless ["_law_one", "_law_other"] spLess) (bless : Binds K dless ["_law_one", "_law_other"] []) (kless : PySem.W.keepIn K (.ref fless) = true) (mless : mg "_law_less" = some (.ref fless)) : FnOk P w K mg base CX0 2 f fd ["_law_one", "_law_other"] spWith := by
  refine F.ok sc_due (fun vs H Q E h => ?_) (fun cdv A outer s H vs Q E hr h => ?_)
  · obtain ⟨x, y, n, ps, qs, rfl, _⟩ := h
    rfl
  obtain ⟨x, y, n, ps, qs, rfl, ⟨⟨t, zs, hx, ht, row⟩, ok⟩, ⟨⟨t', zs', hy, ht', row'⟩, ok'⟩, q⟩ := h
  refine ⟨_, (pss_cons (ps_for PassesOwn.never rfl (pi_zipT rfl T.zip (pa_cons (pe_ix ix_tup (pv 0) pe_int (fun _ _ => rfl)) (pa_cons (pe_ix ix_tup (pv 1) pe_int (fun _ _ => rfl)) pa_nil))) (pg_tup rfl (pgs_cons (pg_name (i := 2) sc_due.nd rfl (Or.inl rfl)) (pgs_cons (pg_name (i := 3) sc_due.nd rfl (Or.inl rfl)) pgs_nil))) (pss_one (ps_if (PW.pt (pw_or (pt_val (pe_call Gless hr rfl mless kless bless .nil pass0 (pa_cons (pe_ix ix_tup (pv 2) pe_int (fun _ _ => rfl)) (pa_cons (pe_ix ix_tup (pv 3) pe_int (fun _ _ => rfl)) pa_nil)))) (pw_or1 (pt_val (pe_call Gless hr rfl mless kless bless .nil pass0 (pa_cons (pe_ix ix_tup (pv 3) pe_int (fun _ _ => rfl)) (pa_cons (pe_ix ix_tup (pv 2) pe_int (fun _ _ => rfl)) pa_nil))))))) (pss_one (ps_ret pe_bl)) pss_nil)))
    (pss_one (ps_ret pe_bl))), ?_⟩
  have lz := row.len
  have lz' := row'.len
  have l1 := ok.len
  have l2 := ok'.len
  refine ⟨_, rfl, x, _, 1, _, rfl, rfl, SqT.of hx, at1, _, rfl, y, _, 1, _, rfl, rfl, SqT.of hy, at1, t, t', rfl, ⟨_, SqT.of ht⟩, ⟨_, SqT.of ht'⟩, ?_⟩
  refine for_zipT (n := n + 1) (xs := zs) (ys := zs') (fun i σ H' => Same H H' ∧ (∃ v1 v2, σ = [some (.ref x), some (.ref y), v1, v2]) ∧ ∀ (j : Nat), j < i → ∀ (p q : Rat × Rat), ps[j]? = some p → qs[j]? = some q → wiB p q = true) ⟨Same.refl H, ⟨none, none, rfl⟩, fun j hj => by omega⟩ (by omega) (by omega) (.inl (by omega)) ?_ ?_ ?_
  · rintro i σ H' hi ⟨sm, _⟩
    exact ⟨SqT.of (sm _ _ ht), SqT.of (sm _ _ ht')⟩
  · rintro i u v U σ H' hi hu hv hU ⟨sm, ⟨v1, v2, rfl⟩, hj⟩
    have ep := List.getElem?_eq_getElem (show i < ps.length by omega)
    have eq := List.getElem?_eq_getElem (show i < qs.length by omega)
    obtain ⟨b, la, ha, f1, f2, f3, f4⟩ := (row.keep sm).get ep
    obtain ⟨b', la', ha', g1, g2, g3, g4⟩ := (row'.keep sm).get eq
    rw [hu] at f1
    cases f1
    rw [hv] at g1
    cases g1
    have sU := same_new hU (.tup [.ref b, .ref b'])
    have f2' := sU _ _ f2
    have g2' := sU _ _ g2
    have smU := sm.trans sU
    refine ⟨U, _, rfl, SqT.of upd_same, rfl, .ref b, [.ref b'], rfl, .ref b', [], rfl, rfl, ?_⟩
    refine ⟨_, rfl, b, _, 0, _, rfl, rfl, SqT.of f2', at0, _, rfl, b', _, 0, _, rfl, rfl, SqT.of g2', at0, la, la', _, _, rfl, f3.keep sU, g3.keep sU, _, rfl, ?_⟩
    by_cases c1 : ps[i].1 < qs[i].1
    · rw [decide_eq_true c1]
      refine iteT (iteT ?_)
      have e : wiL ps qs = false := wiL_false ep eq (by unfold wiB; rw [decide_eq_true c1]; rfl)
      have := q _ smU
      rw [e] at this
      exact this
    · rw [decide_eq_false c1]
      refine iteF ?_
      refine ⟨_, rfl, b', _, 1, _, rfl, rfl, SqT.of g2', at1, _, rfl, b, _, 1, _, rfl, rfl, SqT.of f2', at1, ha', ha, _, _, rfl, g4.keep sU, f4.keep sU, _, rfl, ?_⟩
      by_cases c2 : qs[i].2 < ps[i].2
      · rw [decide_eq_true c2]
        refine iteT ?_
        have e : wiL ps qs = false := wiL_false ep eq (by unfold wiB; rw [decide_eq_true c2, Bool.not_true, Bool.and_false])
        have := q _ smU
        rw [e] at this
        exact this
      · rw [decide_eq_false c2]
        refine iteF ⟨smU, ⟨_, _, rfl⟩, fun j hj' p q' e1 e2 => ?_⟩
        by_cases z : j < i
        · exact hj j z p q' e1 e2
        · have : j = i := by omega
          subst this
          rw [ep] at e1
          rw [eq] at e2
          cases e1; cases e2
          unfold wiB
          rw [decide_eq_false c1, decide_eq_false c2] <;> rfl
  · rintro σ H' ⟨sm, ⟨v1, v2, rfl⟩, hj⟩
    have e : wiL ps qs = true := wiL_true fun i p q' e1 e2 => hj i (by have := (List.getElem?_eq_some_iff.mp e1).1; omega) p q' e1 e2
    have := q _ sm
    rw [e] at this
    exact this
structure Good (ps : List (Rat × Rat)) : Prop where
  le : ∀ (i : Nat) (p : Rat × Rat), ps[i]? = some p → p.1 ≤ p.2
  nx : ∀ (i : Nat) (p q : Rat × Rat), ps[i]? = some p → ps[i + 1]? = some q → p.1 ≤ q.1 ∧ p.2 ≤ q.2
theorem up_step {l : List Rat} (h : ∀ (i : Nat) (x y : Rat), l[i]? = some x → l[i + 1]? = some y → x ≤ y) : Up l := by
  induction l with
  | nil => exact List.Pairwise.nil
  | cons a l ih =>
    have ih' := ih fun i x y e1 e2 => h (i + 1) x y (by simpa using e1) (by simpa using e2)
    refine List.pairwise_cons.mpr ⟨fun y hy => ?_, ih'⟩
    cases l with
    | nil => cases hy
    | cons b l =>
      have hab := h 0 a b rfl rfl
      rcases List.mem_cons.mp hy with rfl | hy
      · exact hab
      · have := (List.pairwise_cons.mp ih').1 y hy
        grind
theorem Good.rule {n : Nat} {ps : List (Rat × Rat)} (h : Good ps) (h1 : 1 ≤ n) (h12 : n ≤ 12) (hl : ps.length = n + 1) : IsRule n ps where
  n1 := h1
  n12 := h12
  len := hl
  lows := up_step fun i x y e1 e2 => by
    rw [List.getElem?_map] at e1 e2
    cases e3 : ps[i]? with
    | none => rw [e3] at e1; cases e1
    | some p =>
      cases e4 : ps[i + 1]? with
      | none => rw [e4] at e2; cases e2
      | some q =>
        rw [e3] at e1; rw [e4] at e2; cases e1; cases e2
        exact (h.nx i p q e3 e4).1
  highs := up_step fun i x y e1 e2 => by
    rw [List.getElem?_map] at e1 e2
    cases e3 : ps[i]? with
    | none => rw [e3] at e1; cases e1
    | some p =>
      cases e4 : ps[i + 1]? with
      | none => rw [e4] at e2; cases e2
      | some q =>
        rw [e3] at e1; rw [e4] at e2; cases e1; cases e2
        exact (h.nx i p q e3 e4).2
  le := fun p hp => by
    obtain ⟨i, hi⟩ := List.mem_iff_getElem?.mp hp
    exact h.le i p hi
def spIsr : Sp := fun vs H Q _ => ∃ (t : Addr) (zs : List V) (ps : List (Rat × Rat)), vs = [.ref t] ∧ H t = some (.tup zs) ∧ RowP H ps zs ∧ ps.length ≤ 20 ∧ ∀ b, (b = true → Good ps) → Q (.bl b) H
theorem sc_isr : FnScope ["_law_stretches", "_law_k", "_law_at"] ["_law_stretches"] (defScope s_isr) := ⟨rfl, rfl, rfl, by decide +kernel, rfl, by decide +kernel, by decide +kernel⟩
theorem ok_isr {f : Addr} {fd : FuncData} (F : Fun K "_law_is_rule" "_law_is_rule" s_isr f fd) (T : Txt mg) {fless : Addr} {dless : FuncData} (Gless : FnOk P w K mg base CX0 1 fless dless ["_law_one", "_law_other"] spLess) (bless : Binds K dless ["_law_one", "_law_other"] []) (kless : PySem.W.keepIn K (.ref fless) = true) (mless : mg "_law_less" = some (.ref fless)) : FnOk P w K mg base CX0 2 f fd ["_law_stretches"] spIsr := by
  refine F.ok sc_isr (fun vs H Q E h => ?_) (fun cdv A outer s H vs Q E hr h => ?_)
  · obtain ⟨t, zs, ps, rfl, _⟩ := h
    rfl
  obtain ⟨t, zs, ps, rfl, ht, row, l20, q⟩ := h
  refine ⟨_, (pss_cons (ps_for PassesOwn.never rfl (pi_range1 rfl T.range (pa_cons (pe_callB call_len_seq rfl T.len boot_len (pa_cons (pv 0) pa_nil)) pa_nil)) (pg_name (i := 1) sc_isr.nd rfl (Or.inl rfl)) (pss_cons (ps_if (pt_val (pe_call Gless hr rfl mless kless bless .nil pass0 (pa_cons (pe_ix ix_tup (pe_ix ix_tup (pv 0) (pv 1) (fun _ _ => rfl)) pe_int (fun _ _ => rfl)) (pa_cons (pe_ix ix_tup (pe_ix ix_tup (pv 0) (pv 1) (fun _ _ => rfl)) pe_int (fun _ _ => rfl)) pa_nil)))) (pss_one (ps_ret pe_bl)) pss_nil)
      (pss_one (ps_for PassesOwn.never rfl (pi_range1 rfl T.range (pa_cons pe_int pa_nil)) (pg_name (i := 2) sc_isr.nd rfl (Or.inl rfl)) (pss_one (ps_if (PW.pt (pw_and (pt_cmpR op_gt (pv 1) pe_int (nomark _)) (pw_and1 (pt_val (pe_call Gless hr rfl mless kless bless .nil pass0 (pa_cons (pe_ix ix_tup (pe_ix ix_tup (pv 0) (pv 1) (fun _ _ => rfl)) (pv 2) (fun _ _ => rfl)) (pa_cons (pe_ix ix_tup (pe_ix ix_tup (pv 0) (pe_op op_sub (pv 1) pe_int) (fun _ _ => rfl)) (pv 2) (fun _ _ => rfl)) pa_nil))))))) (pss_one (ps_ret pe_bl)) pss_nil))))))
    (pss_one (ps_ret pe_bl))), ?_⟩
  have lz := row.len
  refine ⟨_, rfl, t, _, rfl, .inr (SqT.of ht), _, rfl, by omega, by omega, ?_⟩
  have el : ((zs.length : Int)).toNat = zs.length := rfl
  rw [el]
  refine for_range (lo := 0) (fun i σ H' => H' = H ∧ (∃ v1 v2, σ = [some (.ref t), v1, v2]) ∧ (∀ (j : Nat), j < i → ∀ (p : Rat × Rat), ps[j]? = some p → p.1 ≤ p.2) ∧ ∀ (j : Nat), j + 1 < i → ∀ (p q : Rat × Rat), ps[j]? = some p → ps[j + 1]? = some q → p.1 ≤ q.1 ∧ p.2 ≤ q.2) ⟨rfl, ⟨none, none, rfl⟩, fun j hj => by omega, fun j hj => by omega⟩ ?_ ?_
  · rintro i σ H' hi ⟨rfl, ⟨v1, v2, rfl⟩, g1, g2⟩
    have ep := List.getElem?_eq_getElem (show i < ps.length by omega)
    obtain ⟨b, la, ha, f1, f2, f3, f4⟩ := row.get ep
    have ei : (0 : Int) + (i : Int) = (i : Int) := by omega
    rw [ei]
    refine ⟨_, rfl, _, rfl, t, _, _, _, rfl, rfl, SqT.of ht, atI_nat f1, b, _, 1, _, rfl, rfl, SqT.of f2, at1, _, rfl, _, rfl, t, _, _, _, rfl, rfl, SqT.of ht, atI_nat f1, b, _, 0, _, rfl, rfl, SqT.of f2, at0, ha, la, _, _, rfl, f4, f3, _, rfl, ?_⟩
    refine ite2 (fun c => q false (fun z => by cases z)) (fun c => ?_)
    have c' := ofD c
    refine ⟨2, rfl, by decide, by decide, ?_⟩
    refine for_range (lo := 0) (fun j σ H'' => H'' = H' ∧ (∃ v2, σ = [some (.ref t), some (.int (i : Int)), v2]) ∧ (0 < i → ∀ (p q : Rat × Rat), ps[i - 1]? = some p → ps[i]? = some q → (1 ≤ j → p.1 ≤ q.1) ∧ (2 ≤ j → p.2 ≤ q.2))) ⟨rfl, ⟨_, rfl⟩, fun _ p q _ _ => ⟨fun z => by omega, fun z => by omega⟩⟩ ?_ ?_
    · rintro j σ H'' hj ⟨rfl, ⟨v2', rfl⟩, g3⟩
      have ej : (0 : Int) + (j : Int) = (j : Int) := by omega
      rw [ej]
      refine ⟨_, rfl, _, _, rfl, rfl, _, rfl, ?_⟩
      by_cases ci : 0 < i
      · refine ite2 (fun _ => ?_) (fun z => absurd (show (0 : Int) < (i : Int) by omega) (ofD z))
        have ep1 := List.getElem?_eq_getElem (show i - 1 < ps.length by omega)
        obtain ⟨b', la', ha', h1, h2, h3, h4⟩ := row.get ep1
        have em : (i : Int) - 1 = ((i - 1 : Nat) : Int) := by omega
        rcases (show j = 0 ∨ j = 1 by have : j < 2 := hj; omega) with j0 | j1
        · subst j0
          refine ⟨_, rfl, _, rfl, t, _, _, _, rfl, rfl, SqT.of ht, atI_nat f1, _, rfl, b, _, _, _, rfl, rfl, SqT.of f2, at0, _, rfl, _, rfl, _, _, rfl, rfl, t, _, _, _, rfl, rfl, SqT.of ht, (by rw [em]; exact atI_nat h1), _, rfl, b', _, _, _, rfl, rfl, SqT.of h2, at0, la, la', _, _, rfl, f3, h3, _, rfl, ?_⟩
          refine ite2 (fun z => q false (fun z => by cases z)) (fun z => ?_)
          have z' := ofD z
          refine ⟨rfl, ⟨_, rfl⟩, fun _ p q' e1 e2 => ⟨fun _ => ?_, fun z => by omega⟩⟩
          rw [ep1] at e1
          rw [ep] at e2
          cases e1; cases e2
          grind
        · subst j1
          refine ⟨_, rfl, _, rfl, t, _, _, _, rfl, rfl, SqT.of ht, atI_nat f1, _, rfl, b, _, _, _, rfl, rfl, SqT.of f2, at1, _, rfl, _, rfl, _, _, rfl, rfl, t, _, _, _, rfl, rfl, SqT.of ht, (by rw [em]; exact atI_nat h1), _, rfl, b', _, _, _, rfl, rfl, SqT.of h2, at1, ha, ha', _, _, rfl, f4, h4, _, rfl, ?_⟩
          refine ite2 (fun z => q false (fun z => by cases z)) (fun z => ?_)
          have z' := ofD z
          refine ⟨rfl, ⟨_, rfl⟩, fun hp p q' e1 e2 => ⟨fun _ => (g3 hp p q' e1 e2).1 (Nat.le_refl _), fun _ => ?_⟩⟩
          rw [ep1] at e1
          rw [ep] at e2
          cases e1; cases e2
          grind
      · refine ite2 (fun z => absurd (of_decide_eq_true z) (show ¬ ((0 : Int) < (i : Int)) by omega)) (fun _ => ?_)
        exact iteF ⟨rfl, ⟨_, rfl⟩, fun hp => absurd hp ci⟩
    · rintro σ H'' ⟨rfl, ⟨v2', rfl⟩, g3⟩
      refine ⟨rfl, ⟨_, _, rfl⟩, fun j hj p e => ?_, fun j hj p q' e1 e2 => ?_⟩
      · by_cases z : j < i
        · exact g1 j z p e
        · have : j = i := by omega
          subst this
          rw [ep] at e
          cases e
          grind
      · by_cases z : j + 1 < i
        · exact g2 j z p q' e1 e2
        · have : j + 1 = i := by omega
          subst this
          have := g3 (by omega) p q' (by simpa using e1) e2
          exact ⟨this.1 (by decide), this.2 (by decide)⟩
  · rintro σ H' ⟨rfl, ⟨v1, v2, rfl⟩, g1, g2⟩
    refine q true fun _ => ⟨fun i p e => g1 i (by have := (List.getElem?_eq_some_iff.mp e).1; omega) p e, fun i p q' e1 e2 => g2 i (by have := (List.getElem?_eq_some_iff.mp e2).1; omega) p q' e1 e2⟩
theorem bh_div {c k : Int} (h : Bg c) (hk : k.natAbs ≤ 1000) : Bh ((c + k) / 624) := by
  have h1 := PySem.intBits_le_iff.mp (bh_of h hk)
  refine PySem.intBits_le_iff.mpr ?_
  have h2 : ((c + k) / 624).natAbs ≤ (c + k).natAbs := by omega
  exact Nat.lt_of_le_of_lt h2 h1
def spMov : Sp := fun vs H Q _ => ∃ (x : Addr) (n : Nat) (ps : List (Rat × Rat)) (c k : Int), vs = [.ref x, .int (c + k)] ∧ RuleAt H x n ps ∧ Bg c ∧ k.natAbs ≤ 1000 ∧ ∀ y H' qs, Same H H' → RuleAt H' y n qs → Q (.ref y) H'
theorem at_neg1 {xs : List V} {y : V} (h : xs[xs.length - 1]? = some y) : atI xs (-1) = some y := by
  have hl : 0 < xs.length := by have := (List.getElem?_eq_some_iff.mp h).1; omega
  have e : ixN xs.length (-1) = some (xs.length - 1) := by
    unfold ixN
    rw [if_neg (by omega), if_pos (by omega)]
    congr 1
    omega
  unfold atI
  rw [e]
  exact h
theorem RowP.take {H : Hp} : ∀ {ps : List (Rat × Rat)} {xs : List V} (k : Nat), RowP H ps xs → RowP H (ps.take k) (xs.take k)
  | [], _, k, h => by rw [show _ = [] from h]; simp [RowP]
  | _ :: _, _, 0, _ => rfl
  | _ :: _, _, k + 1, ⟨a, la, ha, ys, e, h0, h1, h2, h3⟩ => by rw [e]; exact ⟨a, la, ha, _, rfl, h0, h1, h2, h3.take k⟩
theorem RowP.drop {H : Hp} : ∀ {ps : List (Rat × Rat)} {xs : List V} (k : Nat), RowP H ps xs → RowP H (ps.drop k) (xs.drop k)
  | [], _, k, h => by rw [show _ = [] from h]; simp [RowP]
  | _ :: _, _, 0, h => h
  | _ :: _, _, k + 1, ⟨a, la, ha, ys, e, h0, h1, h2, h3⟩ => by rw [e]; exact h3.drop k
theorem cut_up {ws : List V} {k : Nat} (h : k ≤ ws.length) : cutV ws none (some (k : Int)) = ws.take k := by
  unfold cutV
  rw [HT.sIx_none, HT.sIx_nat, Nat.min_eq_left h, List.drop_zero, Nat.sub_zero]
theorem cut_from {ws : List V} {k : Nat} (h : k ≤ ws.length) : cutV ws (some (k : Int)) none = ws.drop k := by
  unfold cutV
  rw [HT.sIx_none, HT.sIx_nat, Nat.min_eq_left h, List.take_of_length_le (by simp)]
def setP (p : Rat × Rat) (j : Int) (r : Rat) : Rat × Rat := if j = 0 then (r, p.2) else (p.1, r)
theorem set_two {H : Hp} {la ha f : Addr} {p : Rat × Rat} {r : Rat} {j : Int} (h1 : Shp H la p.1) (h2 : Shp H ha p.2) (hf : Shp H f r) (j0 : 0 ≤ j) (j1 : j < 2) : ∃ la' ha', [V.ref la, V.ref ha].set j.toNat (.ref f) = [V.ref la', V.ref ha'] ∧ Shp H la' (setP p j r).1 ∧ Shp H ha' (setP p j r).2 := by
  have : j = 0 ∨ j = 1 := by omega
  rcases this with rfl | rfl
  · exact ⟨f, ha, rfl, hf, h2⟩
  · exact ⟨la, f, rfl, h1, hf⟩
theorem sc_mov : FnScope ["_law_rule_here", "_law_cell", "_law_k", "_law_rims", "_law_others", "_law_stretches"] ["_law_rule_here", "_law_cell"] (defScope s_mov) := ⟨rfl, rfl, rfl, by decide +kernel, rfl, by decide +kernel, by decide +kernel⟩
theorem ok_mov {f : Addr} {fd : FuncData} (F : Fun K "_law_moved" "_law_moved" s_mov f fd) (T : Txt mg) {fshk : Addr} {dshk : FuncData} (Gshk : FnOk P w K mg base CX0 4 fshk dshk ["_law_cell", "_law_kind"] spShk) (bshk : Binds K dshk ["_law_cell", "_law_kind"] []) (kshk : PySem.W.keepIn K (.ref fshk) = true) (mshk : mg "_law_share" = some (.ref fshk)) {fisr : Addr} {disr : FuncData} (Gisr : FnOk P w K mg base CX0 4 fisr disr ["_law_stretches"] spIsr) (bisr : Binds K disr ["_law_stretches"] []) (kisr : PySem.W.keepIn K (.ref fisr) = true) (misr : mg "_law_is_rule" = some (.ref fisr)) : FnOk P w K mg base CX0 5 f fd ["_law_rule_here", "_law_cell"] spMov := by
  refine F.ok sc_mov (fun vs H Q E h => ?_) (fun cdv A outer s H vs Q E hr h => ?_)
  · obtain ⟨x, n, ps, c, k, rfl, _⟩ := h
    rfl
  obtain ⟨x, n, ps, c, kk, rfl, hx0, bg, kk1, q⟩ := h
  refine ⟨_, (pss_cons (ps_set (i := 2) sc_mov.nd rfl (Or.inl rfl) (pe_op op_mod (pv 1) (pe_op op_add (pe_ix ix_tup (pv 0) pe_int (fun _ _ => rfl)) pe_int)))
    (pss_cons (ps_set (i := 3) sc_mov.nd rfl (Or.inl rfl) (pe_callTy call_list_of rfl T.list boot_list (pa_cons (pe_ix ix_tup (pe_ix ix_tup (pv 0) pe_int (fun _ _ => rfl)) (pv 2) (fun _ _ => rfl)) pa_nil)))
    (pss_cons (ps_set (i := 4) sc_mov.nd rfl (Or.inl rfl) (pe_lst (pa_cons (pe_tup (pa_cons pe_int (pa_cons pe_int pa_nil))) (pa_cons (pe_tup (pa_cons pe_int (pa_cons pe_int pa_nil))) (pa_cons (pe_ix ix_tup (pe_ix ix_tup (pe_ix ix_tup (pv 0) pe_int (fun _ _ => rfl)) (pe_op op_sub (pv 2) pe_int) (fun _ _ => rfl)) pe_int (fun _ _ => rfl)) (pa_cons (pe_ix ix_tup (pe_ix ix_tup (pe_ix ix_tup (pv 0) pe_int (fun _ _ => rfl)) (pe_op op_sub (pv 2) pe_int) (fun _ _ => rfl)) pe_int (fun _ _ => rfl)) (pa_cons (pe_ix ix_tup (pe_ix ix_tup (pe_ix ix_tup (pv 0) pe_int (fun _ _ => rfl)) pe_int (fun _ _ => rfl)) pe_int (fun _ _ => rfl)) (pa_cons (pe_ix ix_tup (pe_ix ix_tup (pe_ix ix_tup (pv 0) pe_int (fun _ _ => rfl)) (pe_un un_neg pe_int) (fun _ _ => rfl)) pe_int (fun _ _ => rfl)) (pa_cons (pe_ix ix_list (pv 3) pe_int (fun _ _ => rfl)) (pa_cons (pe_ix ix_list (pv 3) pe_int (fun _ _ => rfl)) pa_nil))))))))))
    (pss_cons (ps_asg (pe_ix ix_list (pv 4) (pe_op op_mod (pe_op op_fdiv (pv 1) pe_int) pe_int) (fun _ _ => rfl)) (pg_sub (pv 3) (pe_op op_mod (pe_op op_fdiv (pv 1) pe_int) pe_int) set_list))
    (pss_cons (ps_if (pt_cmpR op_eq (pe_op op_mod (pe_op op_fdiv (pv 1) pe_int) pe_int) pe_int (nomark _)) (pss_one (ps_asg (pe_call Gshk hr rfl mshk kshk bshk .nil pass0 (pa_cons (pe_op op_fdiv (pv 1) pe_int) (pa_cons pe_int pa_nil))) (pg_sub (pv 3) (pe_op op_mod (pe_op op_fdiv (pv 1) pe_int) pe_int) set_list))) pss_nil)
    (pss_cons (ps_set (i := 5) sc_mov.nd rfl (Or.inl rfl) (pe_op op_catU (pe_op op_catU (pe_slice sl_tup (pe_ix ix_tup (pv 0) pe_int (fun _ _ => rfl)) po_none (po_some (pv 2))) (pe_tup (pa_cons (pe_callTy call_tuple_of rfl T.tuple boot_tuple (pa_cons (pv 3) pa_nil)) pa_nil))) (pe_slice sl_tup (pe_ix ix_tup (pv 0) pe_int (fun _ _ => rfl)) (po_some (pe_op op_add (pv 2) pe_int)) po_none)))
    (pss_cons (ps_if (pt_val (pe_call Gisr hr rfl misr kisr bisr .nil pass0 (pa_cons (pv 5) pa_nil))) (pss_one (ps_ret (pe_tup (pa_cons (pe_ix ix_tup (pv 0) pe_int (fun _ _ => rfl)) (pa_cons (pv 5) pa_nil))))) pss_nil)
    (pss_one (ps_ret (pv 0)))))))))), ?_⟩
  obtain ⟨⟨t, zs, hx, ht, row⟩, ok⟩ := hx0
  have lz := row.len
  have l13 := ok.len
  have n1 := ok.n1
  have n12 := ok.n12
  have bh := bh_div bg kk1
  generalize hcc : c + kk = cc at *
  have wp : (0 : Int) < (n : Int) + 1 := by omega
  have k0 := md0 cc wp
  have k1 := md1 cc wp
  obtain ⟨k, ek⟩ : ∃ k : Nat, cc % ((n : Int) + 1) = (k : Int) := ⟨(cc % ((n : Int) + 1)).toNat, by omega⟩
  have hk : k < ps.length := by omega
  have ep := List.getElem?_eq_getElem hk
  obtain ⟨b, la, ha, f1, f2, f3, f4⟩ := row.get ep
  dsimp only
  refine seq_by (fun σ H' => H' = H ∧ σ = [some (.ref x), some (.int cc), some (.int (k : Int)), none, none, none]) ?_ ?_
  · intro M hM
    refine ⟨_, rfl, _, rfl, x, _, 0, _, rfl, rfl, SqT.of hx, at0, _, _, rfl, rfl, _, _, rfl, rfl, wp, hM _ _ ⟨rfl, ?_⟩⟩
    rw [← ek] <;> rfl
  rintro σ H0 ⟨e0, rfl⟩
  replace e0 := e0.symm
  subst e0
  refine ⟨_, rfl, x, _, 1, _, rfl, rfl, SqT.of hx, at1, _, rfl, t, _, _, _, rfl, rfl, SqT.of ht, atI_nat f1, b, _, rfl, .inr (SqT.of f2), fun R hR => ?_⟩
  have s1 := same_new hR (.lst [V.ref la, V.ref ha])
  have hR1 : (upd H R (.lst [V.ref la, V.ref ha])) R = some (.lst [V.ref la, V.ref ha]) := upd_same
  obtain ⟨bp, lp, hp, rp, g0, g1, g2, g3⟩ : ∃ bp lp hp, ∃ rp : Rat × Rat, atI zs ((k : Int) - 1) = some (.ref bp) ∧ H bp = some (.tup [.ref lp, .ref hp]) ∧ Shp H lp rp.1 ∧ Shp H hp rp.2 := by
    by_cases z : k = 0
    · have eL := List.getElem?_eq_getElem (show ps.length - 1 < ps.length by omega)
      obtain ⟨b', l', h', e1, e2, e3, e4⟩ := row.get eL
      refine ⟨b', l', h', _, ?_, e2, e3, e4⟩
      rw [show (k : Int) - 1 = -1 by omega]
      exact at_neg1 (by rw [lz]; exact e1)
    · have eL := List.getElem?_eq_getElem (show k - 1 < ps.length by omega)
      obtain ⟨b', l', h', e1, e2, e3, e4⟩ := row.get eL
      refine ⟨b', l', h', _, ?_, e2, e3, e4⟩
      rw [show (k : Int) - 1 = ((k - 1 : Nat) : Int) by omega]
      exact atI_nat e1
  obtain ⟨bf, lf, hf, rf, y0, y1, y2, y3⟩ : ∃ bf lf hf, ∃ rf : Rat × Rat, atI zs 0 = some (.ref bf) ∧ H bf = some (.tup [.ref lf, .ref hf]) ∧ Shp H lf rf.1 ∧ Shp H hf rf.2 := by
    obtain ⟨b', l', h', e1, e2, e3, e4⟩ := row.get (List.getElem?_eq_getElem (show 0 < ps.length by omega))
    exact ⟨b', l', h', _, atI_nat (j := 0) e1, e2, e3, e4⟩
  obtain ⟨be, le, he, re, w0, w1, w2, w3⟩ : ∃ be le he, ∃ re : Rat × Rat, atI zs (-1) = some (.ref be) ∧ H be = some (.tup [.ref le, .ref he]) ∧ Shp H le re.1 ∧ Shp H he re.2 := by
    obtain ⟨b', l', h', e1, e2, e3, e4⟩ := row.get (List.getElem?_eq_getElem (show ps.length - 1 < ps.length by omega))
    exact ⟨b', l', h', _, at_neg1 (by rw [lz]; exact e1), e2, e3, e4⟩
  have hx1 := s1 _ _ hx
  have ht1 := s1 _ _ ht
  have aR0 : atI [V.ref la, V.ref ha] 0 = some (V.ref la) := atI_nat (j := 0) rfl
  have aR1 : atI [V.ref la, V.ref ha] 1 = some (V.ref ha) := atI_nat (j := 1) rfl
  refine ⟨(by show 2 ≤ sizeLine; decide), fun o0 h0 => ⟨(by show 2 ≤ sizeLine; decide), fun o1 h1 => ?_⟩⟩
  have u0 := same_new h0 (.tup [V.int 0, V.int 1])
  have u1 := same_new h1 (.tup [V.int 1, V.int 1])
  have u01 := u0.trans u1
  have s13 := s1.trans u01
  have hx3 := u01 _ _ hx1
  have ht3 := u01 _ _ ht1
  have hR3 := u01 _ _ hR1
  have z0 := (shp0 (H := upd (upd H R (.lst [V.ref la, V.ref ha])) o0 (.tup [V.int 0, V.int 1])) upd_same).keep u1
  have z1 := shp1 (H := upd (upd (upd H R (.lst [V.ref la, V.ref ha])) o0 (.tup [V.int 0, V.int 1])) o1 (.tup [V.int 1, V.int 1])) (a := o1) upd_same
  refine ⟨_, rfl, x, _, 1, _, rfl, rfl, SqT.of hx3, at1, _, rfl, _, _, rfl, rfl, t, _, _, _, rfl, rfl, SqT.of ht3, g0, bp, _, 0, _, rfl, rfl, SqT.of (s13 _ _ g1), at0, ?_⟩
  refine ⟨_, rfl, x, _, 1, _, rfl, rfl, SqT.of hx3, at1, _, rfl, _, _, rfl, rfl, t, _, _, _, rfl, rfl, SqT.of ht3, g0, bp, _, 1, _, rfl, rfl, SqT.of (s13 _ _ g1), at1, ?_⟩
  refine ⟨_, rfl, x, _, 1, _, rfl, rfl, SqT.of hx3, at1, t, _, _, _, rfl, rfl, SqT.of ht3, y0, bf, _, 1, _, rfl, rfl, SqT.of (s13 _ _ y1), at1, ?_⟩
  refine ⟨_, rfl, x, _, 1, _, rfl, rfl, SqT.of hx3, at1, _, rfl, t, _, _, _, rfl, rfl, SqT.of ht3, w0, be, _, 0, _, rfl, rfl, SqT.of (s13 _ _ w1), at0, ?_⟩
  refine ⟨_, rfl, R, _, 0, _, rfl, rfl, SqL.of hR3, aR0, _, rfl, R, _, 1, _, rfl, rfl, SqL.of hR3, aR1, (by show 8 ≤ sizeLine; decide), fun O hO => ?_⟩
  have s4 := same_new hO (.lst [V.ref o0, V.ref o1, V.ref lp, V.ref hp, V.ref hf, V.ref le, V.ref la, V.ref ha])
  have s14 := s13.trans s4
  have hO4 : (upd (upd (upd (upd H R (.lst [V.ref la, V.ref ha])) o0 (.tup [V.int 0, V.int 1])) o1 (.tup [V.int 1, V.int 1])) O (.lst [V.ref o0, V.ref o1, V.ref lp, V.ref hp, V.ref hf, V.ref le, V.ref la, V.ref ha])) O = some (.lst [V.ref o0, V.ref o1, V.ref lp, V.ref hp, V.ref hf, V.ref le, V.ref la, V.ref ha]) := upd_same
  have shO : ShL (upd (upd (upd (upd H R (.lst [V.ref la, V.ref ha])) o0 (.tup [V.int 0, V.int 1])) o1 (.tup [V.int 1, V.int 1])) O (.lst [V.ref o0, V.ref o1, V.ref lp, V.ref hp, V.ref hf, V.ref le, V.ref la, V.ref ha])) [0, 1, rp.1, rp.2, rf.2, re.1, ps[k].1, ps[k].2] [V.ref o0, V.ref o1, V.ref lp, V.ref hp, V.ref hf, V.ref le, V.ref la, V.ref ha] :=
    ⟨o0, _, rfl, z0.keep s4, o1, _, rfl, z1.keep s4, lp, _, rfl, g2.keep s14, hp, _, rfl, g3.keep s14, hf, _, rfl, y3.keep s14, le, _, rfl, w2.keep s14, la, _, rfl, f3.keep s14, ha, _, rfl, f4.keep s14, rfl⟩
  have hR4 := s4 _ _ hR3
  have hRn := hR
  generalize hH4 : upd (upd (upd (upd H R (.lst [V.ref la, V.ref ha])) o0 (.tup [V.int 0, V.int 1])) o1 (.tup [V.int 1, V.int 1])) O (.lst [V.ref o0, V.ref o1, V.ref lp, V.ref hp, V.ref hf, V.ref le, V.ref la, V.ref ha]) = H4 at *
  have j0 := md0 (cc / 13) (show (0 : Int) < 2 by decide)
  have j1 := md1 (cc / 13) (show (0 : Int) < 2 by decide)
  have i0 := md0 (cc / 26) (show (0 : Int) < 8 by decide)
  have i1 := md1 (cc / 26) (show (0 : Int) < 8 by decide)
  generalize hj : cc / 13 % 2 = j at *
  obtain ⟨r, er⟩ : ∃ r, ([0, 1, rp.1, rp.2, rf.2, re.1, ps[k].1, ps[k].2] : List Rat)[(cc / 26 % 8).toNat]? = some r := ⟨_, List.getElem?_eq_getElem (show (cc / 26 % 8).toNat < 8 by omega)⟩
  obtain ⟨f, ef, sf⟩ := shO.get er
  have aO : atI [V.ref o0, V.ref o1, V.ref lp, V.ref hp, V.ref hf, V.ref le, V.ref la, V.ref ha] (cc / 26 % 8) = some (.ref f) := by
    have ei : cc / 26 % 8 = ((cc / 26 % 8).toNat : Int) := by omega
    rw [ei]
    exact atI_nat ef
  have ixj : ixN 2 j = some j.toNat := by
    unfold ixN
    rw [if_pos j0, if_pos (by omega)]
  obtain ⟨la1, ha1, es1, v1, v2⟩ := set_two (f3.keep s14) (f4.keep s14) sf j0 j1
  refine ⟨_, rfl, _, rfl, _, _, rfl, rfl, ⟨by decide, by decide⟩, _, _, rfl, rfl, (by show (0 : Int) < 8; decide), O, _, _, _, rfl, rfl, SqL.of hO4, aO, ?_⟩
  refine ⟨_, rfl, _, rfl, _, _, rfl, rfl, ⟨by decide, by decide⟩, _, _, rfl, rfl, (by show (0 : Int) < 2; decide), R, _, _, j.toNat, rfl, congrArg V.int hj, hR4, ixj, ?_⟩
  rw [es1]
  have v1' := v1.write (ws := [V.ref la1, V.ref ha1]) hR4
  have v2' := v2.write (ws := [V.ref la1, V.ref ha1]) hR4
  have s15 : Same H (upd H4 R (.lst [V.ref la1, V.ref ha1])) := same_write s14 hRn
  have hR5 : (upd H4 R (.lst [V.ref la1, V.ref ha1])) R = some (.lst [V.ref la1, V.ref ha1]) := upd_same
  generalize hH5 : upd H4 R (.lst [V.ref la1, V.ref ha1]) = H5 at *
  generalize hp1 : setP ps[k] j r = pp1 at *
  dsimp only
  refine seq_by (fun σ H' => Same H H' ∧ ∃ la2 ha2 pp, σ = [some (.ref x), some (.int cc), some (.int (k : Int)), some (.ref R), some (.ref O), none] ∧ H' R = some (.lst [V.ref la2, V.ref ha2]) ∧ Shp H' la2 (pp : Rat × Rat).1 ∧ Shp H' ha2 pp.2) ?_ ?_
  · intro M hM
    refine ⟨_, rfl, _, _, rfl, rfl, ⟨by decide, by decide⟩, _, _, rfl, rfl, (by show (0 : Int) < 3; decide), rfl, _, rfl, ?_⟩
    refine ite2 (fun _ => ?_) (fun _ => hM _ _ ⟨s15, la1, ha1, pp1, rfl, hR5, v1', v2'⟩)
    refine ⟨_, rfl, _, _, rfl, rfl, ⟨by decide, by decide⟩, _, _, rfl, bh, by decide, by decide, fun f' H6 r' s6 sf' _ => ?_⟩
    obtain ⟨la2, ha2, es2, v3, v4⟩ := set_two (v1'.keep s6) (v2'.keep s6) sf' j0 j1
    have hR6 := s6 _ _ hR5
    refine ⟨_, rfl, _, rfl, _, _, rfl, rfl, ⟨by decide, by decide⟩, _, _, rfl, rfl, (by show (0 : Int) < 2; decide), R, _, _, j.toNat, rfl, congrArg V.int hj, hR6, ixj, ?_⟩
    rw [es2]
    exact hM _ _ ⟨same_write (s15.trans s6) hRn, la2, ha2, _, rfl, upd_same, v3.write hR6, v4.write hR6⟩
  rintro σ H6 ⟨s16, la2, ha2, pp, rfl, hR6, v3, v4⟩
  have hx6 := s16 _ _ hx
  have ht6 := s16 _ _ ht
  have row6 := row.keep s16
  have cutA : ¬ (HT.sIx zs.length 0 none = 0 ∧ HT.sIx zs.length zs.length (some (k : Int)) = zs.length) := by
    rw [HT.sIx_nat]
    omega
  have ek1 : (k : Int) + 1 = ((k + 1 : Nat) : Int) := by omega
  have cutB : ¬ (HT.sIx zs.length 0 (some ((k : Int) + 1)) = 0 ∧ HT.sIx zs.length zs.length none = zs.length) := by
    rw [ek1, HT.sIx_nat]
    omega
  refine seq_by (fun σ H' => Same H H' ∧ ∃ C ws, σ = [some (.ref x), some (.int cc), some (.int (k : Int)), some (.ref R), some (.ref O), some (.ref C)] ∧ H' C = some (.tup ws) ∧ RowP H' (ps.take k ++ [pp] ++ ps.drop (k + 1)) ws) ?_ ?_
  · intro M hM
    refine ⟨_, rfl, x, _, 1, _, rfl, rfl, SqT.of hx6, at1, _, rfl, _, rfl, t, _, rfl, SqT.of ht6, cutA, fun A1 hA1 => ?_⟩
    rw [cut_up (by omega)]
    have t1 := same_new hA1 (.tup (zs.take k))
    refine ⟨_, rfl, R, _, rfl, .inl ⟨SqL.of (t1 _ _ hR6), fun B1 hB1 => ?_⟩⟩
    have t2 := same_new hB1 (.tup [V.ref la2, V.ref ha2])
    refine ⟨(by show 1 ≤ sizeLine; decide), fun B2 hB2 => ?_⟩
    have t3 := same_new hB2 (.tup [V.ref B1])
    have t13 := (t1.trans t2).trans t3
    have hB1' : (upd (upd (upd H6 A1 (.tup (zs.take k))) B1 (.tup [V.ref la2, V.ref ha2])) B2 (.tup [V.ref B1])) B1 = some (.tup [V.ref la2, V.ref ha2]) := t3 _ _ upd_same
    have hB2' : (upd (upd (upd H6 A1 (.tup (zs.take k))) B1 (.tup [V.ref la2, V.ref ha2])) B2 (.tup [V.ref B1])) B2 = some (.tup [V.ref B1]) := upd_same
    have hA1' : (upd (upd (upd H6 A1 (.tup (zs.take k))) B1 (.tup [V.ref la2, V.ref ha2])) B2 (.tup [V.ref B1])) A1 = some (.tup (zs.take k)) := t3 _ _ (t2 _ _ upd_same)
    generalize hH7 : upd (upd (upd H6 A1 (.tup (zs.take k))) B1 (.tup [V.ref la2, V.ref ha2])) B2 (.tup [V.ref B1]) = H7 at *
    have s17 := s16.trans t13
    have rowB : RowP H7 [pp] [.ref B1] := ⟨B1, la2, ha2, [], rfl, hB1', v3.keep t13, v4.keep t13, rfl⟩
    have row7 := row6.keep t13
    have rowAll : ∀ H9, Same H7 H9 → RowP H9 (ps.take k ++ [pp] ++ ps.drop (k + 1)) (zs.take k ++ [V.ref B1] ++ zs.drop (k + 1)) := fun H9 s9 => (((row7.keep s9).take k).app (rowB.keep s9)).app ((row7.keep s9).drop (k + 1))
    have hx7 := t13 _ _ hx6
    have ht7 := t13 _ _ ht6
    have len1 : (zs.take k ++ [V.ref B1]).length + (zs.drop (k + 1)).length ≤ sizeLine := Nat.le_of_lt (lt40 (by simp; omega))
    by_cases z : k = 0
    · have eT : zs.take k ++ [V.ref B1] = [V.ref B1] := by rw [z]; rfl
      refine .inl ⟨A1, B2, _, rfl, rfl, SqT.of (by rw [hA1', z]; rfl), SqT.of hB2', ?_⟩
      refine ⟨_, rfl, x, _, 1, _, rfl, rfl, SqT.of hx7, at1, _, rfl, _, _, rfl, rfl, _, rfl, t, _, rfl, SqT.of ht7, cutB, fun D2 hD2 => ?_⟩
      rw [ek1, cut_from (by omega)]
      have u := same_new hD2 (.tup (zs.drop (k + 1)))
      refine .inr ⟨B2, D2, _, _, rfl, rfl, SqT.of (u _ _ hB2'), SqT.of upd_same, by simp, by rw [← eT]; exact len1, fun e => ?_, fun _ p hp => ?_⟩
      · refine hM _ _ ⟨s17.trans u, B2, _, rfl, ?_, rowAll _ u⟩
        refine (u _ _ hB2').trans (congrArg (fun l => some (HO.tup l)) ?_)
        rw [e, List.append_nil, eT]
      · have u2 := same_new hp (.tup ([V.ref B1] ++ zs.drop (k + 1)))
        refine hM _ _ ⟨s17.trans (u.trans u2), p, _, rfl, ?_, rowAll _ (u.trans u2)⟩
        rw [upd_same, eT]
    · refine .inr ⟨A1, B2, _, _, rfl, rfl, SqT.of hA1', SqT.of hB2', fun e => ?_, Nat.le_of_lt (lt40 (by simp; omega)), fun e => ?_, fun _ C hC => ?_⟩
      · have := congrArg List.length e
        rw [List.length_take, List.length_nil] at this
        omega
      · cases e
      have u0 := same_new hC (.tup (zs.take k ++ [V.ref B1]))
      have hC0 : (upd H7 C (.tup (zs.take k ++ [V.ref B1]))) C = some (.tup (zs.take k ++ [V.ref B1])) := upd_same
      generalize hH8 : upd H7 C (.tup (zs.take k ++ [V.ref B1])) = H8 at *
      refine ⟨_, rfl, x, _, 1, _, rfl, rfl, SqT.of (u0 _ _ hx7), at1, _, rfl, _, _, rfl, rfl, _, rfl, t, _, rfl, SqT.of (u0 _ _ ht7), cutB, fun D2 hD2 => ?_⟩
      rw [ek1, cut_from (by omega)]
      have u := same_new hD2 (.tup (zs.drop (k + 1)))
      refine .inr ⟨C, D2, _, _, rfl, rfl, SqT.of (u _ _ hC0), SqT.of upd_same, by simp, len1, fun e => ?_, fun _ p hp => ?_⟩
      · refine hM _ _ ⟨s17.trans (u0.trans u), C, _, rfl, ?_, rowAll _ (u0.trans u)⟩
        refine (u _ _ hC0).trans (congrArg (fun l => some (HO.tup l)) ?_)
        rw [e, List.append_nil]
      · have u2 := same_new hp (.tup (zs.take k ++ [V.ref B1] ++ zs.drop (k + 1)))
        exact hM _ _ ⟨s17.trans (u0.trans (u.trans u2)), p, _, rfl, upd_same, rowAll _ (u0.trans (u.trans u2))⟩
  rintro σ H7 ⟨s17, C, ws, rfl, hC, rowC⟩
  have lq : (ps.take k ++ [pp] ++ ps.drop (k + 1)).length = n + 1 := by simp; omega
  have hx7 := s17 _ _ hx
  refine ⟨_, rfl, C, ws, _, rfl, hC, rowC, by omega, fun bb hb => ⟨_, rfl, ?_⟩⟩
  cases bb with
  | true =>
    refine iteT ⟨_, rfl, x, _, 0, _, rfl, rfl, SqT.of hx7, at0, _, rfl, (by show 2 ≤ sizeLine; decide), fun y hy => ?_⟩
    have u := same_new hy (.tup [V.int n, V.ref C])
    exact q y _ _ (s17.trans u) ⟨⟨C, ws, upd_same, u _ _ hC, rowC.keep u⟩, (hb rfl).rule n1 n12 lq⟩
  | false => exact iteF ⟨_, rfl, q x _ ps s17 ⟨⟨t, zs, hx7, s17 _ _ ht, row.keep s17⟩, ok⟩⟩
theorem upto_pw {ps qs : List Rat} (u1 : Up ps) (u2 : Up qs) (hl : ps.length = qs.length) (h : ∀ (i : Nat) (x y : Rat), ps[i]? = some x → qs[i]? = some y → y ≤ x) (r : Rat) : upto r ps ≤ upto r qs := by
  by_cases z : upto r ps = 0
  · omega
  · have l1 := upto_len r ps
    have e1 := List.getElem?_eq_getElem (show upto r ps - 1 < ps.length by omega)
    have e2 := List.getElem?_eq_getElem (show upto r ps - 1 < qs.length by omega)
    have a := (upto_iff u1 e1 (p := r)).mp (by omega)
    have b := h _ _ _ e1 e2
    have := (upto_iff u2 e2 (p := r)).mpr (by grind)
    omega
theorem lower_pw {ps qs : List Rat} (u1 : Up ps) (u2 : Up qs) (hl : ps.length = qs.length) (h : ∀ (i : Nat) (x y : Rat), ps[i]? = some x → qs[i]? = some y → x ≤ y) (r : Rat) : lower r qs ≤ lower r ps := by
  by_cases z : lower r qs = 0
  · omega
  · have l1 := lower_le r qs
    have e1 := List.getElem?_eq_getElem (show lower r qs - 1 < ps.length by omega)
    have e2 := List.getElem?_eq_getElem (show lower r qs - 1 < qs.length by omega)
    have a := (lower_iff u2 e2 (p := r)).mp (by omega)
    have b := h _ _ _ e1 e2
    have := (lower_iff u1 e1 (p := r)).mpr (by grind)
    omega
theorem wi_runs {n : Nat} {ps qs : List (Rat × Rat)} (ok : IsRule n ps) (ok' : IsRule n qs) (h : wiL ps qs = true) (r : Rat) : upto r (lowsOf ps) ≤ upto r (lowsOf qs) ∧ lower r (highsOf qs) ≤ lower r (highsOf ps) := by
  have hl : ps.length = qs.length := by rw [ok.len, ok'.len]
  constructor
  · refine upto_pw ok.lows ok'.lows (by simp [hl]) (fun i x y e1 e2 => ?_) r
    rw [List.getElem?_map] at e1 e2
    cases e3 : ps[i]? with
    | none => rw [e3] at e1; cases e1
    | some p =>
      cases e4 : qs[i]? with
      | none => rw [e4] at e2; cases e2
      | some q =>
        rw [e3] at e1; rw [e4] at e2; cases e1; cases e2
        exact (wiB_iff.mp (wiL_at h e3 e4)).1
  · refine lower_pw ok.highs ok'.highs (by simp [hl]) (fun i x y e1 e2 => ?_) r
    rw [List.getElem?_map] at e1 e2
    cases e3 : ps[i]? with
    | none => rw [e3] at e1; cases e1
    | some p =>
      cases e4 : qs[i]? with
      | none => rw [e4] at e2; cases e2
      | some q =>
        rw [e3] at e1; rw [e4] at e2; cases e1; cases e2
        exact (wiB_iff.mp (wiL_at h e3 e4)).2
theorem wi_some {n : Nat} {ps qs : List (Rat × Rat)} (ok : IsRule n ps) (ok' : IsRule n qs) (h : wiL ps qs = true) {r : Rat} {z : Nat × Nat} (hz : runOf ps r r = some z) : ∃ w, runOf qs r r = some w ∧ w.1 ≤ z.1 ∧ z.2 ≤ w.2 := by
  obtain ⟨a, b⟩ := wi_runs ok ok' h r
  unfold runOf at hz ⊢
  split at hz
  · rename_i c
    cases hz
    rw [if_pos (by omega)]
    exact ⟨_, rfl, by show lower r (highsOf qs) ≤ lower r (highsOf ps); omega, by show upto r (lowsOf ps) - 1 ≤ upto r (lowsOf qs) - 1; omega⟩
  · cases hz
def spPair : Sp := fun vs H Q _ => ∃ (x y : Addr) (n : Nat) (ps qs : List (Rat × Rat)), vs = [.ref x, .ref y] ∧ RuleAt H x n ps ∧ RuleAt H y n qs ∧ ∀ H', Same H H' → Q (.bl true) H'
theorem sc_pair : FnScope ["_law_one", "_law_other", "_law_found", "_law_p", "_law_small", "_law_great"] ["_law_one", "_law_other"] (defScope s_pair) := ⟨rfl, rfl, rfl, by decide +kernel, rfl, by decide +kernel, by decide +kernel⟩
theorem ok_pair {f : Addr} {fd : FuncData} (F : Fun K "_law_pair" "_law_pair" s_pair f fd) (T : Txt mg) {fwith : Addr} {dwith : FuncData} (Gwith : FnOk P w K mg base CX0 4 fwith dwith ["one", "other"] spWith) (bwith : Binds K dwith ["one", "other"] []) (kwith : PySem.W.keepIn K (.ref fwith) = true) (mwith : mg "is_within" = some (.ref fwith)) {fdue : Addr} {ddue : FuncData} (Gdue : FnOk P w K mg base CX0 4 fdue ddue ["_law_one", "_law_other"] spWith) (bdue : Binds K ddue ["_law_one", "_law_other"] []) (kdue : PySem.W.keepIn K (.ref fdue) = true) (mdue : mg "_law_due" = some (.ref fdue)) {fedges : Addr} {dedges : FuncData} (Gedges : FnOk P w K mg base CX0 4 fedges dedges ["rule"] spEdges) (bedges : Binds K dedges ["rule"] []) (kedges : PySem.W.keepIn K (.ref fedges) = true) (medges : mg "edges" = some (.ref fedges)) {fheld : Addr} {dheld : FuncData} (Gheld : FnOk P w K mg base CX0 4 fheld dheld ["rule", "p"] spHeld) (bheld : Binds K dheld ["rule", "p"] []) (kheld : PySem.W.keepIn K (.ref fheld) = true) (mheld : mg "held" = some (.ref fheld)) : FnOk P w K mg base CX0 5 f fd ["_law_one", "_law_other"] spPair := by
  refine F.ok sc_pair (fun vs H Q E h => ?_) (fun cdv A outer s H vs Q E hr h => ?_)
  · obtain ⟨x, y, n, ps, qs, rfl, _⟩ := h
    rfl
  obtain ⟨x, y, n, ps, qs, rfl, hx, hy, q⟩ := h
  refine ⟨_, (pss_cons (ps_set (i := 2) sc_pair.nd rfl (Or.inl rfl) (pe_call Gwith hr rfl mwith kwith bwith .nil pass0 (pa_cons (pv 0) (pa_cons (pv 1) pa_nil))))
    (pss_cons (ps_if (PW.pt (pw_or (pt_not (pt_val (pe_callB call_isinstD rfl T.isinstance boot_isinstance (pa_cons (pv 2) (pa_cons (pe_bltn (v := .ty "bool") rfl T.bool boot_bool rfl) pa_nil))))) (pw_or1 (pt_cmpR op_ne (pv 2) (pe_call Gdue hr rfl mdue kdue bdue .nil pass0 (pa_cons (pv 0) (pa_cons (pv 1) pa_nil))) (nomark _))))) (pss_one (ps_ret pe_bl)) pss_nil)
    (pss_cons (ps_if (pt_val (pv 2)) (pss_one (ps_for PassesOwn.never rfl (pi_list (pe_op op_cat (pe_call Gedges hr rfl medges kedges bedges .nil pass0 (pa_cons (pv 0) pa_nil)) (pe_call Gedges hr rfl medges kedges bedges .nil pass0 (pa_cons (pv 1) pa_nil)))) (pg_name (i := 3) sc_pair.nd rfl (Or.inl rfl)) (pss_cons (ps_set (i := 4) sc_pair.nd rfl (Or.inl rfl) (pe_call Gheld hr rfl mheld kheld bheld .nil pass0 (pa_cons (pv 0) (pa_cons (pv 3) pa_nil))))
        (pss_cons (ps_set (i := 5) sc_pair.nd rfl (Or.inl rfl) (pe_call Gheld hr rfl mheld kheld bheld .nil pass0 (pa_cons (pv 1) (pa_cons (pv 3) pa_nil))))
        (pss_one (ps_if (PW.pt (pw_and (pt_cmpR op_notN (pv 4) pe_non (nomark _)) (pw_and1 (PW.pt (pw_or (pt_cmpR op_isN (pv 5) pe_non (nomark _)) (pw_or (pt_cmpR op_gt (pe_ix ix_tup (pv 5) pe_int (fun _ _ => rfl)) (pe_ix ix_tup (pv 4) pe_int (fun _ _ => rfl)) (nomark _)) (pw_or1 (pt_cmpR op_lt (pe_ix ix_tup (pv 5) pe_int (fun _ _ => rfl)) (pe_ix ix_tup (pv 4) pe_int (fun _ _ => rfl)) (nomark _))))))))) (pss_one (ps_ret pe_bl)) pss_nil)))))) pss_nil)
    (pss_one (ps_ret pe_bl))))), ?_⟩
  refine ⟨_, rfl, _, rfl, x, y, n, ps, qs, rfl, hx, hy, fun H1 s1 => ?_⟩
  have hx1 := hx.keep s1
  have hy1 := hy.keep s1
  refine ⟨_, rfl, .bl (wiL ps qs), .bl (wiL ps qs), _, _, rfl, rfl, kit_bool _, _, rfl, iteF ?_⟩
  refine ⟨_, rfl, _, rfl, _, rfl, x, y, n, ps, qs, rfl, hx1, hy1, fun H2 s2 => ?_⟩
  refine ⟨rfl, _, rfl, ?_⟩
  refine ite2 (fun z => absurd z (by simp)) (fun _ => ?_)
  have hx2 := hx1.keep s2
  have hy2 := hy1.keep s2
  have s12 := s1.trans s2
  refine ⟨_, rfl, _, rfl, ?_⟩
  cases hw : wiL ps qs with
  | false => exact iteF (q _ s12)
  | true =>
    refine iteT ?_
    refine ⟨_, rfl, x, n, ps, rfl, hx2, fun l1 H3 ws _ s3 hl1 sh1 => ?_⟩
    refine ⟨_, rfl, y, n, qs, rfl, hy2.keep s3, fun l2 H4 ws' _ s4 hl2 sh2 => ?_⟩
    have le1 := edg_len (rimL ps)
    have le2 := edg_len (rimL qs)
    have lr1 := rimL_len ps
    have lr2 := rimL_len qs
    have lp := hx.ok.len
    have lq := hy.ok.len
    have n12 := hx.ok.n12
    have lw1 := sh1.len
    have lw2 := sh2.len
    refine ⟨l1, l2, _, _, rfl, rfl, s4 _ _ hl1, hl2, Nat.le_trans (show _ ≤ 80 by omega) (by decide), fun L hL => ?_⟩
    have s5 := same_new hL (.lst (ws ++ ws'))
    have sh5 := ((sh1.keep s4).keep s5).app (sh2.keep s5)
    have hL5 : (upd H4 L (.lst (ws ++ ws'))) L = some (.lst (ws ++ ws')) := upd_same
    have s25 := (s3.trans s4).trans s5
    have hx5 := hx2.keep s25
    have hy5 := hy2.keep s25
    generalize hH5 : upd H4 L (.lst (ws ++ ws')) = H5 at *
    refine ⟨L, rfl, ⟨_, SqL.of hL5⟩, ?_⟩
    refine for_list (xs := ws ++ ws') (fun i σ H' => Same H5 H' ∧ ∃ v1 v2 v3, σ = [some (.ref x), some (.ref y), some (.bl true), v1, v2, v3]) ⟨Same.refl H5, none, none, none, rfl⟩ ?_ ?_ ?_
    · rintro i σ H' hi ⟨sm, _⟩
      exact SqL.of (sm _ _ hL5)
    · rintro i z σ H6 hz ⟨sm, v1, v2, v3, rfl⟩
      have hi := (List.getElem?_eq_some_iff.mp hz).1
      have ll := sh5.len
      obtain ⟨f, e1, sf⟩ := (sh5.keep sm).get (List.getElem?_eq_getElem (show i < (edg (rimL ps) ++ edg (rimL qs)).length by omega))
      rw [hz] at e1
      cases e1
      generalize (edg (rimL ps) ++ edg (rimL qs))[i] = r at *
      refine ⟨_, rfl, _, rfl, x, n, ps, f, r, rfl, hx5.keep sm, sf, fun va H7 s7 ra => ?_⟩
      refine ⟨_, rfl, _, rfl, y, n, qs, f, r, rfl, (hy5.keep sm).keep s7, sf.keep s7, fun vb H8 s8 rb => ?_⟩
      have sm8 := (sm.trans s7).trans s8
      have ra8 := ra.keep s8
      cases hrn : runOf ps r r with
      | none =>
        rw [hrn] at ra8
        have ev : va = V.non := ra8
        subst ev
        exact ⟨_, rfl, rfl, _, rfl, iteF (iteF ⟨sm8, _, _, _, rfl⟩)⟩
      | some zz =>
        rw [hrn] at ra8
        obtain ⟨w, hw', w1, w2⟩ := wi_some hx.ok hy.ok hw hrn
        rw [hw'] at rb
        obtain ⟨ta, ea, oa⟩ := ra8
        obtain ⟨tb, eb, ob⟩ := rb
        subst ea eb
        refine ⟨_, rfl, rfl, _, rfl, iteT ?_⟩
        refine ⟨_, rfl, rfl, _, rfl, iteF ?_⟩
        refine ⟨_, rfl, tb, _, 0, _, rfl, rfl, SqT.of ob, at0, _, rfl, ta, _, 0, _, rfl, rfl, SqT.of oa, at0, _, _, rfl, rfl, _, rfl, ?_⟩
        refine ite2 (fun c => absurd (of_decide_eq_true c) (show ¬ ((zz.1 : Int) < (w.1 : Int)) by omega)) (fun _ => ?_)
        refine ⟨_, rfl, tb, _, 1, _, rfl, rfl, SqT.of ob, at1, _, rfl, ta, _, 1, _, rfl, rfl, SqT.of oa, at1, _, _, rfl, rfl, _, rfl, ?_⟩
        refine ite2 (fun c => absurd (of_decide_eq_true c) (show ¬ ((w.2 : Int) < (zz.2 : Int)) by omega)) (fun _ => ?_)
        exact ⟨sm8, _, _, _, rfl⟩
    · rintro σ H6 ⟨sm, v1, v2, v3, rfl⟩
      exact q _ ((s12.trans s25).trans sm)
def spLaw (K : PySem.W.Frag) : Sp := fun vs H Q _ => ∃ (a : Addr) (ns : List Int), vs = [.ref a] ∧ SqL K H a (ns.map V.int) ∧ ns.length ≤ 63 ∧ (∀ i ∈ ns, Bg i) ∧ ∀ H', Q (.bl true) H'
def thP (p : Rat × Rat) : Th := .tup [.tup [.int p.1.num, .int (p.1.den : Int)], .tup [.int p.2.num, .int (p.2.den : Int)]]
theorem dens_row {H : Hp} : ∀ {ps : List (Rat × Rat)} {zs : List V}, RowP H ps zs → Dens H (ps.map thP) zs
  | [], _, h => h
  | _ :: _, _, ⟨a, la, ha, ys, e, h0, h1, h2, h3⟩ => ⟨.ref a, ys, e, den2 h0 (den_p h1.ob) (den_p h2.ob), dens_row h3⟩
theorem den_rule {H : Hp} {x : Addr} {n : Nat} {ps : List (Rat × Rat)} (h : RuleAt H x n ps) : Den H (.tup [.int (n : Int), .tup (ps.map thP)]) (.ref x) := by
  obtain ⟨⟨t, zs, hx, ht, row⟩, _⟩ := h
  exact den2 hx rfl ⟨t, zs, rfl, ht, dens_row row⟩
theorem dep_row : ∀ (ps : List (Rat × Rat)), depTs (ps.map thP) ≤ 2
  | [] => by simp [depTs]
  | p :: ps => by
    have := dep_row ps
    rw [List.map_cons, depTs]
    exact Nat.max_le.mpr ⟨by simp [thP, depT, depTs], this⟩
theorem dep_rule (n : Int) (ps : List (Rat × Rat)) : depTs [.int n, .tup (ps.map thP)] ≤ 50 := by
  have := dep_row ps
  simp only [depTs, depT]
  omega
theorem cmp_row : ∀ (ps qs : List (Rat × Rat)), cmpThs (ps.map thP) (qs.map thP) = true
  | [], _ => by simp [cmpThs]
  | _ :: _, [] => by simp [cmpThs]
  | p :: ps, q :: qs => by
    rw [List.map_cons, List.map_cons, cmpThs, cmp_row ps qs, Bool.and_true]
    simp [thP, cmpTh, cmpThs]
theorem cmp_rule (n m : Int) (ps qs : List (Rat × Rat)) : cmpThs [.int n, .tup (ps.map thP)] [.int m, .tup (qs.map thP)] = true := by
  rw [cmpThs, cmpThs, cmpTh, cmpTh, cmp_row]
  simp [cmpThs]
theorem eq_row : ∀ {ps qs : List (Rat × Rat)}, eqThs (ps.map thP) (qs.map thP) = true → ps = qs
  | [], [], _ => rfl
  | [], _ :: _, h => by simp [eqThs] at h
  | _ :: _, [], h => by simp [eqThs] at h
  | p :: ps, q :: qs, h => by
    rw [List.map_cons, List.map_cons, eqThs, Bool.and_eq_true] at h
    rw [eq_row h.2]
    have h1 := h.1
    unfold thP at h1
    simp only [eqTh, eqThs, Bool.and_eq_true, beq_iff_eq, Bool.and_true] at h1
    obtain ⟨⟨a, b⟩, c, d⟩ := h1
    have e1 : p.1 = q.1 := Rat.ext a (by exact_mod_cast b)
    have e2 : p.2 = q.2 := Rat.ext c (by exact_mod_cast d)
    rw [show p = q from Prod.ext e1 e2]
def wh (n : Nat) : List (Rat × Rat) := List.replicate (n + 1) (0, 1)
theorem up_rep (r : Rat) : ∀ k, Up (List.replicate k r)
  | 0 => List.Pairwise.nil
  | k + 1 => by
    rw [List.replicate_succ]
    exact List.Pairwise.cons (fun a ha => by rw [List.eq_of_mem_replicate ha]; exact Rat.le_refl) (up_rep r k)
theorem wh_ok {n : Nat} (h1 : 1 ≤ n) (h2 : n ≤ 12) : IsRule n (wh n) := by
  refine ⟨h1, h2, by simp [wh], ?_, ?_, fun p hp => ?_⟩
  · unfold wh; rw [List.map_replicate]; exact up_rep _ _
  · unfold wh; rw [List.map_replicate]; exact up_rep _ _
  · rw [(List.mem_replicate.mp hp).2]; decide
theorem wh_at {n i : Nat} {q : Rat × Rat} (h : (wh n)[i]? = some q) : q = (0, 1) := (List.mem_replicate.mp (List.mem_of_getElem? h)).2
theorem row_in {H : Hp} {ps : List (Rat × Rat)} {zs : List V} (row : RowP H ps zs) {i : Nat} {p : Rat × Rat} (e : ps[i]? = some p) : 0 ≤ p.1 ∧ p.1 ≤ 1 ∧ 0 ≤ p.2 ∧ p.2 ≤ 1 := by
  obtain ⟨_, _, _, _, _, s1, s2⟩ := row.get e
  exact ⟨s1.lo, s1.hi, s2.lo, s2.hi⟩
theorem wi_whole {H : Hp} {x : Addr} {n : Nat} {ps : List (Rat × Rat)} (h : RuleAt H x n ps) : wiL ps (wh n) = true := by
  obtain ⟨⟨t, zs, _, _, row⟩, _⟩ := h
  refine wiL_true fun i p q e1 e2 => wiB_iff.mpr ?_
  rw [wh_at e2]
  have := row_in row e1
  exact ⟨this.1, this.2.2.2⟩
theorem whole_wi {H : Hp} {x : Addr} {n : Nat} {ps : List (Rat × Rat)} (h : RuleAt H x n ps) : wiL (wh n) ps = eqThs [.int (n : Int), .tup (ps.map thP)] [.int (n : Int), .tup ((wh n).map thP)] := by
  have len := h.ok.len
  obtain ⟨⟨t, zs, _, _, row⟩, _⟩ := h
  have lw : (wh n).length = n + 1 := by simp [wh]
  cases e : wiL (wh n) ps with
  | true =>
    have ep : ps = wh n := by
      refine List.eq_replicate_iff.mpr ⟨len, fun p hp => ?_⟩
      obtain ⟨i, hi, rfl⟩ := List.getElem_of_mem hp
      have e1 := List.getElem?_eq_getElem hi
      have e2 := List.getElem?_eq_getElem (show i < (wh n).length by omega)
      have h1 := wiB_iff.mp (wiL_at e e2 e1)
      rw [wh_at e2] at h1
      have h2 := row_in row e1
      exact Prod.ext (Rat.le_antisymm h1.1 h2.1) (Rat.le_antisymm h2.2.2.2 h1.2)
    rw [ep]
    exact (eqThs_refl (cmp_rule _ _ _ _)).symm
  | false =>
    cases e' : eqThs [.int (n : Int), .tup (ps.map thP)] [.int (n : Int), .tup ((wh n).map thP)] with
    | false => rfl
    | true =>
      exfalso
      rw [eqThs, eqThs, eqTh, eqTh, Bool.and_eq_true, Bool.and_eq_true] at e'
      have ep := eq_row e'.2.1
      have : wiL (wh n) ps = true := by
        rw [ep]
        refine wiL_true fun i p q e1 e2 => wiB_iff.mpr ?_
        rw [wh_at e1, wh_at e2]
        exact ⟨Rat.le_refl, Rat.le_refl⟩
      rw [this] at e
      cases e
theorem wi_trans {a b c : List (Rat × Rat)} (l1 : a.length = b.length) (h1 : wiL a b = true) (h2 : wiL b c = true) : wiL a c = true := by
  refine wiL_true fun i p q e1 e2 => ?_
  have hi := (List.getElem?_eq_some_iff.mp e1).1
  have e3 := List.getElem?_eq_getElem (show i < b.length by omega)
  have w1 := wiB_iff.mp (wiL_at h1 e1 e3)
  have w2 := wiB_iff.mp (wiL_at h2 e3 e2)
  exact wiB_iff.mpr ⟨Rat.le_trans w2.1 w1.1, Rat.le_trans w1.2 w2.2⟩
def Whs (i : Nat) (ys : List V) (H : Hp) : Prop := RowP H (List.replicate i (0, 1)) ys
theorem sc_law : FnScope ["_law_script", "_law_one", "_law_other", "_law_k", "_law_third", "_law_whole", "_law_first", "_law_second"] ["_law_script"] (defScope s_law) := ⟨rfl, rfl, rfl, by decide +kernel, rfl, by decide +kernel, by decide +kernel⟩
theorem ok_law {f : Addr} {fd : FuncData} (F : Fun K "law" "law" s_law f fd) (T : Txt mg) {fcell : Addr} {dcell : FuncData} (Gcell : FnOk P w K mg base CX0 5 fcell dcell ["_law_script", "_law_k"] (spCell K)) (bcell : Binds K dcell ["_law_script", "_law_k"] []) (kcell : PySem.W.keepIn K (.ref fcell) = true) (mcell : mg "_law_cell_at" = some (.ref fcell)) {frule : Addr} {drule : FuncData} (Grule : FnOk P w K mg base CX0 5 frule drule ["_law_script", "_law_turn"] (spRule K)) (brule : Binds K drule ["_law_script", "_law_turn"] []) (krule : PySem.W.keepIn K (.ref frule) = true) (mrule : mg "_law_rule" = some (.ref frule)) {fmov : Addr} {dmov : FuncData} (Gmov : FnOk P w K mg base CX0 5 fmov dmov ["_law_rule_here", "_law_cell"] spMov) (bmov : Binds K dmov ["_law_rule_here", "_law_cell"] []) (kmov : PySem.W.keepIn K (.ref fmov) = true) (mmov : mg "_law_moved" = some (.ref fmov)) {fpair : Addr} {dpair : FuncData} (Gpair : FnOk P w K mg base CX0 5 fpair dpair ["_law_one", "_law_other"] spPair) (bpair : Binds K dpair ["_law_one", "_law_other"] []) (kpair : PySem.W.keepIn K (.ref fpair) = true) (mpair : mg "_law_pair" = some (.ref fpair)) {fwith : Addr} {dwith : FuncData} (Gwith : FnOk P w K mg base CX0 5 fwith dwith ["one", "other"] spWith) (bwith : Binds K dwith ["one", "other"] []) (kwith : PySem.W.keepIn K (.ref fwith) = true) (mwith : mg "is_within" = some (.ref fwith)) : FnOk P w K mg base CX0 6 f fd ["_law_script"] (spLaw K) := by
  refine F.ok sc_law (fun vs H Q E h => ?_) (fun cdv A outer s H vs Q E hr h => ?_)
  · obtain ⟨a, ns, rfl, _⟩ := h
    rfl
  obtain ⟨a, ns, rfl, hS, h63, hbg, q⟩ := h
  refine ⟨_, (pss_cons (ps_set (i := 1) sc_law.nd rfl (Or.inl rfl) (pe_call Grule hr rfl mrule krule brule .nil pass0 (pa_cons (pv 0) (pa_cons pe_int pa_nil))))
    (pss_cons (ps_set (i := 2) sc_law.nd rfl (Or.inl rfl) (pv 1))
    (pss_cons (ps_for PassesOwn.never rfl (pi_range1 rfl T.range (pa_cons (pe_op op_add pe_int (pe_op op_mod (pe_call Gcell hr rfl mcell kcell bcell .nil pass0 (pa_cons (pv 0) (pa_cons pe_int pa_nil))) pe_int)) pa_nil)) (pg_name (i := 3) sc_law.nd rfl (Or.inl rfl)) (pss_one (ps_set (i := 2) sc_law.nd rfl (Or.inl rfl) (pe_call Gmov hr rfl mmov kmov bmov .nil pass0 (pa_cons (pv 2) (pa_cons (pe_op op_add (pe_call Gcell hr rfl mcell kcell bcell .nil pass0 (pa_cons (pv 0) (pa_cons (pe_op op_add pe_int (pv 3)) pa_nil))) (pv 3)) pa_nil))))))
    (pss_cons (ps_set (i := 4) sc_law.nd rfl (Or.inl rfl) (pv 2))
    (pss_cons (ps_for PassesOwn.never rfl (pi_range1 rfl T.range (pa_cons (pe_op op_mod (pe_op op_fdiv (pe_call Gcell hr rfl mcell kcell bcell .nil pass0 (pa_cons (pv 0) (pa_cons pe_int pa_nil))) pe_int) pe_int) pa_nil)) (pg_name (i := 3) sc_law.nd rfl (Or.inl rfl)) (pss_one (ps_set (i := 4) sc_law.nd rfl (Or.inl rfl) (pe_call Gmov hr rfl mmov kmov bmov .nil pass0 (pa_cons (pv 4) (pa_cons (pe_call Gcell hr rfl mcell kcell bcell .nil pass0 (pa_cons (pv 0) (pa_cons (pe_op op_add pe_int (pv 3)) pa_nil))) pa_nil))))))
    (pss_cons (ps_if (pt_cmpR op_eq (pe_op op_mod (pe_op op_fdiv (pe_call Gcell hr rfl mcell kcell bcell .nil pass0 (pa_cons (pv 0) (pa_cons pe_int pa_nil))) pe_int) pe_int) pe_int (nomark _)) (pss_one (ps_set (i := 4) sc_law.nd rfl (Or.inl rfl) (pe_call Grule hr rfl mrule krule brule .nil pass0 (pa_cons (pv 0) (pa_cons pe_int pa_nil))))) pss_nil)
    (pss_cons (ps_set (i := 5) sc_law.nd rfl (Or.inl rfl) (pe_tup (pa_cons (pe_ix ix_tup (pv 1) pe_int (fun _ _ => rfl)) (pa_cons (pe_callTy call_tuple_of rfl T.tuple boot_tuple (pa_cons (pe_comp (ts := []) rfl ⟨rfl, sub0, rfl, rfl, rfl, rfl, by decide +kernel, rfl, rfl⟩ (pi_tup (pe_ix ix_tup (pv 1) pe_int (fun _ _ => rfl))) (fun C s3 H3 fp => (pe_tup (pa_cons (pe_tup (pa_cons pe_int (pa_cons pe_int pa_nil))) (pa_cons (pe_tup (pa_cons pe_int (pa_cons pe_int pa_nil))) pa_nil))))) pa_nil)) pa_nil))))
    (pss_cons (ps_for PassesOwn.never rfl (pi_list (pe_lst (pa_cons (pe_tup (pa_cons (pv 1) (pa_cons (pv 2) pa_nil))) (pa_cons (pe_tup (pa_cons (pv 2) (pa_cons (pv 1) pa_nil))) (pa_cons (pe_tup (pa_cons (pv 2) (pa_cons (pv 4) pa_nil))) (pa_cons (pe_tup (pa_cons (pv 4) (pa_cons (pv 1) pa_nil))) (pa_cons (pe_tup (pa_cons (pv 1) (pa_cons (pv 4) pa_nil))) (pa_cons (pe_tup (pa_cons (pv 1) (pa_cons (pv 1) pa_nil))) pa_nil)))))))) (pg_tup rfl (pgs_cons (pg_name (i := 6) sc_law.nd rfl (Or.inl rfl)) (pgs_cons (pg_name (i := 7) sc_law.nd rfl (Or.inl rfl)) pgs_nil))) (pss_one (ps_if (PW.pt (pw_or (pt_not (pt_val (pe_call Gpair hr rfl mpair kpair bpair .nil pass0 (pa_cons (pv 6) (pa_cons (pv 7) pa_nil))))) (pw_or1 (pt_cmpR op_notB (pe_call Gwith hr rfl mwith kwith bwith .nil pass0 (pa_cons (pv 6) (pa_cons (pv 5) pa_nil))) pe_bl (nomark _))))) (pss_one (ps_ret pe_bl)) pss_nil)))
    (pss_cons (ps_if (PW.pt (pw_and (pt_val (pe_call Gwith hr rfl mwith kwith bwith .nil pass0 (pa_cons (pv 1) (pa_cons (pv 2) pa_nil)))) (pw_and (pt_val (pe_call Gwith hr rfl mwith kwith bwith .nil pass0 (pa_cons (pv 2) (pa_cons (pv 4) pa_nil)))) (pw_and1 (pt_not (pt_val (pe_call Gwith hr rfl mwith kwith bwith .nil pass0 (pa_cons (pv 1) (pa_cons (pv 4) pa_nil))))))))) (pss_one (ps_ret pe_bl)) pss_nil)
    (pss_one (ps_ret (pe_cmpR op_eq (pe_call Gwith hr rfl mwith kwith bwith .nil pass0 (pa_cons (pv 5) (pa_cons (pv 1) pa_nil))) (pe_cmpR (op_eqQ hr.units) (pv 1) (pv 5) (nomark _)) (nomark _))))))))))))), ?_⟩
  refine ⟨_, rfl, a, ns, 0, rfl, hS, hbg, by decide, by decide, fun x H1 ps s1 hx => ?_⟩
  generalize hn : ((1 : Int) + ns.getD (0 : Int).toNat 0 % 12).toNat = n at hx
  have c0 := md0 (ns.getD (2 : Int).toNat 0) (show (0 : Int) < 3 by decide)
  have c1 := md1 (ns.getD (2 : Int).toNat 0) (show (0 : Int) < 3 by decide)
  refine ⟨_, rfl, ?_⟩
  refine ⟨_, rfl, a, ns, 2, rfl, s1.seq hS, by decide, _, _, rfl, rfl, (by show (0 : Int) < 3; decide), _, _, rfl, rfl, _, rfl, by omega, by omega, ?_⟩
  refine for_range (lo := 0) (fun i σ H' => Same H H' ∧ ∃ y qs v, σ = [some (.ref a), some (.ref x), some (.ref y), v, none, none, none, none] ∧ RuleAt H' y n qs ∧ RuleAt H' x n ps) ⟨s1, x, ps, none, rfl, hx, hx⟩ ?_ ?_
  · rintro i σ H2 hi ⟨sm, y, qs, v, rfl, hy, hx2⟩
    have i3 : i < 3 := by omega
    exact ⟨_, rfl, _, rfl, _, rfl, _, _, rfl, rfl, a, ns, _, rfl, sm.seq hS, by omega, _, rfl, _, _, rfl, rfl, y, n, qs, _, _, rfl, hy, bg_getD hbg _, by omega, fun y' H3 qs' s3 hy' => ⟨sm.trans s3, _, _, _, rfl, hy', hx2.keep s3⟩⟩
  rintro σ H2 ⟨s2, y, qs, v, rfl, hy, hx2⟩
  refine ⟨_, rfl, ?_⟩
  have d0 := md0 (ns.getD (2 : Int).toNat 0 / 3) (show (0 : Int) < 3 by decide)
  have d1 := md1 (ns.getD (2 : Int).toNat 0 / 3) (show (0 : Int) < 3 by decide)
  refine ⟨_, rfl, a, ns, 2, rfl, s2.seq hS, by decide, _, _, rfl, rfl, ⟨by decide, by decide⟩, _, _, rfl, rfl, (by show (0 : Int) < 3; decide), _, rfl, by omega, by omega, ?_⟩
  refine for_range (lo := 0) (fun i σ H' => Same H2 H' ∧ ∃ z rs v, σ = [some (.ref a), some (.ref x), some (.ref y), v, some (.ref z), none, none, none] ∧ RuleAt H' z n rs) ⟨Same.refl H2, y, qs, v, rfl, hy⟩ ?_ ?_
  · rintro i σ H3 hi ⟨sm, z, rs, v, rfl, hz⟩
    have i3 : i < 3 := by omega
    refine ⟨_, rfl, _, rfl, _, rfl, _, _, rfl, rfl, a, ns, _, rfl, (s2.trans sm).seq hS, by omega, z, n, rs, ns.getD ((32 : Int) + ((0 : Int) + (i : Int))).toNat 0, 0, (by rw [Int.add_zero]; rfl), hz, bg_getD hbg _, by decide, fun y' H4 qs' s4 hy' => ⟨sm.trans s4, _, _, _, rfl, hy'⟩⟩
  rintro σ H3 ⟨s3, z0, rs0, v3, rfl, hz0⟩
  dsimp only
  refine seq_by (fun σ H' => Same H3 H' ∧ ∃ z rs, σ = [some (.ref a), some (.ref x), some (.ref y), v3, some (.ref z), none, none, none] ∧ RuleAt H' z n rs) ?_ ?_
  · intro M hM
    refine ⟨_, rfl, a, ns, 2, rfl, (s2.trans s3).seq hS, by decide, _, _, rfl, rfl, ⟨by decide, by decide⟩, _, _, rfl, rfl, (by show (0 : Int) < 4; decide), rfl, _, rfl, ?_⟩
    refine ite2 (fun _ => ?_) (fun _ => ?_)
    · refine ⟨_, rfl, a, ns, 7, rfl, (s2.trans s3).seq hS, hbg, by decide, by decide, fun z H4 rs s4 hz => ?_⟩
      rw [hn] at hz
      exact hM _ _ ⟨s4, z, rs, rfl, hz⟩
    · exact hM _ _ ⟨Same.refl H3, z0, rs0, rfl, hz0⟩
  rintro σ H4 ⟨s4, z, rs, rfl, hz⟩
  have hx4 := (hx2.keep s3).keep s4
  have hy4 := (hy.keep s3).keep s4
  obtain ⟨⟨t, zs, o1, o2, row⟩, ok⟩ := id hx4
  have lz := row.len
  have len := ok.len
  have n1 := ok.n1
  have n12 := ok.n12
  have s24 := (s2.trans s3).trans s4
  refine ⟨_, rfl, x, _, 0, _, rfl, rfl, SqT.of o1, at0, _, rfl, x, _, 1, _, rfl, rfl, SqT.of o1, at1, t, rfl, ⟨_, SqT.of o2⟩, fun D hD => ?_⟩
  refine comp_tupR Whs hD (SqT.of o2) (Nat.le_of_lt (lt40 (by omega))) rfl ?_ ?_
  · rintro i e ys H5 k hi sm e5 r hk
    refine ⟨(by show 2 ≤ sizeLine; decide), fun p0 h0 => ⟨(by show 2 ≤ sizeLine; decide), fun p1 h1 => ⟨(by show 2 ≤ sizeLine; decide), fun p2 h2 => ?_⟩⟩⟩
    have u0 := same_new h0 (.tup [V.int 0, V.int 1])
    have u1 := same_new h1 (.tup [V.int 1, V.int 1])
    have u2 := same_new h2 (.tup [V.ref p0, V.ref p1])
    have u02 := (u0.trans u1).trans u2
    refine hk _ _ u02 ?_
    show RowP _ (List.replicate (i + 1) (0, 1)) (ys ++ [.ref p2])
    rw [List.replicate_succ']
    refine RowP.write (u02 _ _ e5) ((RowP.keep u02 r).app ⟨p2, p0, p1, [], rfl, upd_same, ?_, ?_, rfl⟩)
    · exact ((shp0 (H := upd H5 p0 (.tup [V.int 0, V.int 1])) upd_same).keep u1).keep u2
    · exact (shp1 (H := upd (upd H5 p0 (.tup [V.int 0, V.int 1])) p1 (.tup [V.int 1, V.int 1])) upd_same).keep u2
  rintro ys H5 s5 eD lys r
  refine ⟨D, ys, rfl, .inl ⟨SqL.of eD, fun tw hw => ?_⟩⟩
  have s6 := same_new hw (.tup ys)
  refine ⟨(by show 2 ≤ sizeLine; decide), fun w0 hw0 => ?_⟩
  have s7 := same_new hw0 (.tup [V.int (n : Int), V.ref tw])
  have s57 := (s5.trans s6).trans s7
  have hx7 := hx4.keep s57
  have hy7 := hy4.keep s57
  have hz7 := hz.keep s57
  have hw7 : RuleAt (upd (upd H5 tw (.tup ys)) w0 (.tup [V.int (n : Int), V.ref tw])) w0 n (wh n) := by
    refine ⟨⟨tw, ys, upd_same, s7 _ _ upd_same, ?_⟩, wh_ok n1 n12⟩
    have r' : RowP H5 (List.replicate zs.length (0, 1)) ys := r
    rw [lz, len] at r'
    exact (r'.keep s6).keep s7
  generalize hH7 : upd (upd H5 tw (.tup ys)) w0 (.tup [V.int (n : Int), V.ref tw]) = H7 at *
  refine ⟨_, rfl, _, rfl, (by show 2 ≤ sizeLine; decide), fun b0 g0 => ⟨_, rfl, _, rfl, (by show 2 ≤ sizeLine; decide), fun b1 g1 => ⟨_, rfl, _, rfl, (by show 2 ≤ sizeLine; decide), fun b2 g2 => ⟨_, rfl, _, rfl, (by show 2 ≤ sizeLine; decide), fun b3 g3 => ⟨_, rfl, _, rfl, (by show 2 ≤ sizeLine; decide), fun b4 g4 => ⟨_, rfl, _, rfl, (by show 2 ≤ sizeLine; decide), fun b5 g5 => ⟨(by show 6 ≤ sizeLine; decide), fun L gL => ?_⟩⟩⟩⟩⟩⟩⟩
  have m0 := same_new g0 (.tup [V.ref x, V.ref y])
  have m1 := same_new g1 (.tup [V.ref y, V.ref x])
  have m2 := same_new g2 (.tup [V.ref y, V.ref z])
  have m3 := same_new g3 (.tup [V.ref z, V.ref x])
  have m4 := same_new g4 (.tup [V.ref x, V.ref z])
  have m5 := same_new g5 (.tup [V.ref x, V.ref x])
  have m6 := same_new gL (.lst [V.ref b0, V.ref b1, V.ref b2, V.ref b3, V.ref b4, V.ref b5])
  have m56 := m5.trans m6
  have m46 := m4.trans m56
  have m36 := m3.trans m46
  have m26 := m2.trans m36
  have m16 := m1.trans m26
  have m06 := m0.trans m16
  have hx8 := hx7.keep m06
  have hy8 := hy7.keep m06
  have hz8 := hz7.keep m06
  have hw8 := hw7.keep m06
  have f0 := m16 _ _ (upd_same (H := H7) (a := b0) (o := .tup [V.ref x, V.ref y]))
  have f1 := m26 _ _ (upd_same (a := b1) (o := .tup [V.ref y, V.ref x]))
  have f2 := m36 _ _ (upd_same (a := b2) (o := .tup [V.ref y, V.ref z]))
  have f3 := m46 _ _ (upd_same (a := b3) (o := .tup [V.ref z, V.ref x]))
  have f4 := m56 _ _ (upd_same (a := b4) (o := .tup [V.ref x, V.ref z]))
  have f5 := m6 _ _ (upd_same (a := b5) (o := .tup [V.ref x, V.ref x]))
  refine ⟨L, rfl, ⟨_, SqL.of upd_same⟩, ?_⟩
  generalize hH8 : upd _ L (.lst [V.ref b0, V.ref b1, V.ref b2, V.ref b3, V.ref b4, V.ref b5]) = H8 at *
  have hL : H8 L = some (.lst [V.ref b0, V.ref b1, V.ref b2, V.ref b3, V.ref b4, V.ref b5]) := by rw [← hH8]; exact upd_same
  refine for_list (xs := [V.ref b0, V.ref b1, V.ref b2, V.ref b3, V.ref b4, V.ref b5]) (fun i σ H' => Same H8 H' ∧ ∃ v6 v7, σ = [some (.ref a), some (.ref x), some (.ref y), v3, some (.ref z), some (.ref w0), v6, v7]) ⟨Same.refl H8, none, none, rfl⟩ ?_ ?_ ?_
  · rintro i σ H' hi ⟨sm, _⟩
    exact SqL.of (sm _ _ hL)
  · rintro i o σ H9 ho ⟨sm, v6, v7, rfl⟩
    obtain ⟨b, u, v, us, vs, rfl, hb, hu, hv⟩ : ∃ b u v us vs, o = .ref b ∧ H8 b = some (.tup [.ref u, .ref v]) ∧ RuleAt H8 u n us ∧ RuleAt H8 v n vs := by
      match i, ho with
      | 0, ho => exact ⟨b0, x, y, _, _, by simpa using ho.symm, f0, hx8, hy8⟩
      | 1, ho => exact ⟨b1, y, x, _, _, by simpa using ho.symm, f1, hy8, hx8⟩
      | 2, ho => exact ⟨b2, y, z, _, _, by simpa using ho.symm, f2, hy8, hz8⟩
      | 3, ho => exact ⟨b3, z, x, _, _, by simpa using ho.symm, f3, hz8, hx8⟩
      | 4, ho => exact ⟨b4, x, z, _, _, by simpa using ho.symm, f4, hx8, hz8⟩
      | 5, ho => exact ⟨b5, x, x, _, _, by simpa using ho.symm, f5, hx8, hx8⟩
      | j + 6, ho => simp at ho
    refine ⟨b, _, rfl, SqT.of (sm _ _ hb), rfl, .ref u, _, rfl, .ref v, [], rfl, rfl, ?_⟩
    refine ⟨_, rfl, _, rfl, u, v, n, us, vs, rfl, hu.keep sm, hv.keep sm, fun H10 s10 => ⟨_, rfl, iteF ?_⟩⟩
    have sm10 := sm.trans s10
    refine ⟨_, rfl, _, rfl, u, w0, n, us, wh n, rfl, hu.keep sm10, hw8.keep sm10, fun H11 s11 => ?_⟩
    refine ⟨_, _, rfl, rfl, _, rfl, ?_⟩
    refine ite2 (fun e => absurd e (by rw [wi_whole hu]; decide)) (fun _ => ?_)
    exact ⟨sm10.trans s11, _, _, rfl⟩
  · rintro σ H9 ⟨sm, v6, v7, rfl⟩
    have hx9 := hx8.keep sm
    have hy9 := hy8.keep sm
    have hz9 := hz8.keep sm
    have hw9 := hw8.keep sm
    dsimp only
    refine seq_by (fun σ H' => Same H9 H' ∧ σ = [some (.ref a), some (.ref x), some (.ref y), v3, some (.ref z), some (.ref w0), v6, v7]) ?_ ?_
    · intro M hM
      refine ⟨_, rfl, _, rfl, x, y, n, ps, qs, rfl, hx9, hy9, fun H10 s10 => ⟨_, rfl, ?_⟩⟩
      refine ite2 (fun e1 => ?_) (fun _ => hM _ _ ⟨s10, rfl⟩)
      refine ⟨_, rfl, _, rfl, y, z, n, qs, rs, rfl, hy9.keep s10, hz9.keep s10, fun H11 s11 => ⟨_, rfl, ?_⟩⟩
      have s911 := s10.trans s11
      refine ite2 (fun e2 => ?_) (fun _ => hM _ _ ⟨s911, rfl⟩)
      refine ⟨_, rfl, _, rfl, x, z, n, ps, rs, rfl, hx9.keep s911, hz9.keep s911, fun H12 s12 => ⟨_, rfl, ?_⟩⟩
      have e3 : wiL ps rs = true := wi_trans (by have := hy9.ok.len; omega) e1 e2
      rw [e3]
      exact iteF (hM _ _ ⟨s911.trans s12, rfl⟩)
    rintro σ H10 ⟨s10, rfl⟩
    refine ⟨_, rfl, _, rfl, w0, x, n, wh n, ps, rfl, hw9.keep s10, hx9.keep s10, fun H11 s11 => ?_⟩
    have s911 := s10.trans s11
    refine ⟨_, rfl, _, rfl, _, _, den_rule (hx9.keep s911), den_rule (hw9.keep s911), dep_rule _ _, cmp_rule _ _ _ _, ?_⟩
    rw [whole_wi hx9]
    refine ⟨rfl, ?_⟩
    rw [show decide ((V.bl (eqThs [.int (n : Int), .tup (ps.map thP)] [.int (n : Int), .tup ((wh n).map thP)])) = V.bl (eqThs [.int (n : Int), .tup (ps.map thP)] [.int (n : Int), .tup ((wh n).map thP)])) = true from decide_eq_true rfl]
    exact q _
end
theorem all_mk {l : PySem.W.OpenLaw} {w : World} {K : PySem.W.Frag} {h : Heap} {mg : Str → Option Value} {fa f_und f_held f_rov f_edges f_with f_cell f_div f_low f_shk f_less f_srt f_rule f_isr f_due f_mov f_pair f_law : Addr} (X : K.In h) (G : h.Ns mainGlobals mg) (hfa : mg "law" = some (.ref fa))
    {od_und an_und : Option Addr} {sl_und : Array (Option Value)} {oc_und kV_und dc_und pm_und cd_und ct_und : Value}
    (a_und : PySem.W.nsIn K mainGlobals "under" = some (some (.ref f_und))) (l_und : K.lookup f_und = some ⟨oc_und, od_und, .func (PySem.W.fnOf "under" "under" (defArgs s_und) (defBody s_und) (defScope s_und) .none kV_und dc_und pm_und an_und cd_und ct_und), sl_und⟩) (c_und : PySem.W.codeIn K cd_und "under" = true) (k_und : PySem.W.keepIn K (.ref f_und) = true)
    {od_held an_held : Option Addr} {sl_held : Array (Option Value)} {oc_held kV_held dc_held pm_held cd_held ct_held : Value}
    (a_held : PySem.W.nsIn K mainGlobals "held" = some (some (.ref f_held))) (l_held : K.lookup f_held = some ⟨oc_held, od_held, .func (PySem.W.fnOf "held" "held" (defArgs s_held) (defBody s_held) (defScope s_held) .none kV_held dc_held pm_held an_held cd_held ct_held), sl_held⟩) (c_held : PySem.W.codeIn K cd_held "held" = true) (k_held : PySem.W.keepIn K (.ref f_held) = true)
    {od_rov an_rov : Option Addr} {sl_rov : Array (Option Value)} {oc_rov kV_rov dc_rov pm_rov cd_rov ct_rov : Value}
    (a_rov : PySem.W.nsIn K mainGlobals "run_over" = some (some (.ref f_rov))) (l_rov : K.lookup f_rov = some ⟨oc_rov, od_rov, .func (PySem.W.fnOf "run_over" "run_over" (defArgs s_rov) (defBody s_rov) (defScope s_rov) .none kV_rov dc_rov pm_rov an_rov cd_rov ct_rov), sl_rov⟩) (c_rov : PySem.W.codeIn K cd_rov "run_over" = true) (k_rov : PySem.W.keepIn K (.ref f_rov) = true)
    {od_edges an_edges : Option Addr} {sl_edges : Array (Option Value)} {oc_edges kV_edges dc_edges pm_edges cd_edges ct_edges : Value}
    (a_edges : PySem.W.nsIn K mainGlobals "edges" = some (some (.ref f_edges))) (l_edges : K.lookup f_edges = some ⟨oc_edges, od_edges, .func (PySem.W.fnOf "edges" "edges" (defArgs s_edges) (defBody s_edges) (defScope s_edges) .none kV_edges dc_edges pm_edges an_edges cd_edges ct_edges), sl_edges⟩) (c_edges : PySem.W.codeIn K cd_edges "edges" = true) (k_edges : PySem.W.keepIn K (.ref f_edges) = true)
    {od_with an_with : Option Addr} {sl_with : Array (Option Value)} {oc_with kV_with dc_with pm_with cd_with ct_with : Value}
    (a_with : PySem.W.nsIn K mainGlobals "is_within" = some (some (.ref f_with))) (l_with : K.lookup f_with = some ⟨oc_with, od_with, .func (PySem.W.fnOf "is_within" "is_within" (defArgs s_with) (defBody s_with) (defScope s_with) .none kV_with dc_with pm_with an_with cd_with ct_with), sl_with⟩) (c_with : PySem.W.codeIn K cd_with "is_within" = true) (k_with : PySem.W.keepIn K (.ref f_with) = true)
    {od_cell an_cell : Option Addr} {sl_cell : Array (Option Value)} {oc_cell kV_cell dc_cell pm_cell cd_cell ct_cell : Value}
    (a_cell : PySem.W.nsIn K mainGlobals "_law_cell_at" = some (some (.ref f_cell))) (l_cell : K.lookup f_cell = some ⟨oc_cell, od_cell, .func (PySem.W.fnOf "_law_cell_at" "_law_cell_at" (defArgs s_cell) (defBody s_cell) (defScope s_cell) .none kV_cell dc_cell pm_cell an_cell cd_cell ct_cell), sl_cell⟩) (c_cell : PySem.W.codeIn K cd_cell "_law_cell_at" = true) (k_cell : PySem.W.keepIn K (.ref f_cell) = true)
    {od_div an_div : Option Addr} {sl_div : Array (Option Value)} {oc_div kV_div dc_div pm_div cd_div ct_div : Value}
    (a_div : PySem.W.nsIn K mainGlobals "_law_divides" = some (some (.ref f_div))) (l_div : K.lookup f_div = some ⟨oc_div, od_div, .func (PySem.W.fnOf "_law_divides" "_law_divides" (defArgs s_div) (defBody s_div) (defScope s_div) .none kV_div dc_div pm_div an_div cd_div ct_div), sl_div⟩) (c_div : PySem.W.codeIn K cd_div "_law_divides" = true) (k_div : PySem.W.keepIn K (.ref f_div) = true)
    {od_low an_low : Option Addr} {sl_low : Array (Option Value)} {oc_low kV_low dc_low pm_low cd_low ct_low : Value}
    (a_low : PySem.W.nsIn K mainGlobals "_law_lowest" = some (some (.ref f_low))) (l_low : K.lookup f_low = some ⟨oc_low, od_low, .func (PySem.W.fnOf "_law_lowest" "_law_lowest" (defArgs s_low) (defBody s_low) (defScope s_low) .none kV_low dc_low pm_low an_low cd_low ct_low), sl_low⟩) (c_low : PySem.W.codeIn K cd_low "_law_lowest" = true) (k_low : PySem.W.keepIn K (.ref f_low) = true)
    {od_shk an_shk : Option Addr} {sl_shk : Array (Option Value)} {oc_shk kV_shk dc_shk pm_shk cd_shk ct_shk : Value}
    (a_shk : PySem.W.nsIn K mainGlobals "_law_share" = some (some (.ref f_shk))) (l_shk : K.lookup f_shk = some ⟨oc_shk, od_shk, .func (PySem.W.fnOf "_law_share" "_law_share" (defArgs s_shk) (defBody s_shk) (defScope s_shk) .none kV_shk dc_shk pm_shk an_shk cd_shk ct_shk), sl_shk⟩) (c_shk : PySem.W.codeIn K cd_shk "_law_share" = true) (k_shk : PySem.W.keepIn K (.ref f_shk) = true)
    {od_less an_less : Option Addr} {sl_less : Array (Option Value)} {oc_less kV_less dc_less pm_less cd_less ct_less : Value}
    (a_less : PySem.W.nsIn K mainGlobals "_law_less" = some (some (.ref f_less))) (l_less : K.lookup f_less = some ⟨oc_less, od_less, .func (PySem.W.fnOf "_law_less" "_law_less" (defArgs s_less) (defBody s_less) (defScope s_less) .none kV_less dc_less pm_less an_less cd_less ct_less), sl_less⟩) (c_less : PySem.W.codeIn K cd_less "_law_less" = true) (k_less : PySem.W.keepIn K (.ref f_less) = true)
    {od_srt an_srt : Option Addr} {sl_srt : Array (Option Value)} {oc_srt kV_srt dc_srt pm_srt cd_srt ct_srt : Value}
    (a_srt : PySem.W.nsIn K mainGlobals "_law_sorted" = some (some (.ref f_srt))) (l_srt : K.lookup f_srt = some ⟨oc_srt, od_srt, .func (PySem.W.fnOf "_law_sorted" "_law_sorted" (defArgs s_srt) (defBody s_srt) (defScope s_srt) .none kV_srt dc_srt pm_srt an_srt cd_srt ct_srt), sl_srt⟩) (c_srt : PySem.W.codeIn K cd_srt "_law_sorted" = true) (k_srt : PySem.W.keepIn K (.ref f_srt) = true)
    {od_rule an_rule : Option Addr} {sl_rule : Array (Option Value)} {oc_rule kV_rule dc_rule pm_rule cd_rule ct_rule : Value}
    (a_rule : PySem.W.nsIn K mainGlobals "_law_rule" = some (some (.ref f_rule))) (l_rule : K.lookup f_rule = some ⟨oc_rule, od_rule, .func (PySem.W.fnOf "_law_rule" "_law_rule" (defArgs s_rule) (defBody s_rule) (defScope s_rule) .none kV_rule dc_rule pm_rule an_rule cd_rule ct_rule), sl_rule⟩) (c_rule : PySem.W.codeIn K cd_rule "_law_rule" = true) (k_rule : PySem.W.keepIn K (.ref f_rule) = true)
    {od_isr an_isr : Option Addr} {sl_isr : Array (Option Value)} {oc_isr kV_isr dc_isr pm_isr cd_isr ct_isr : Value}
    (a_isr : PySem.W.nsIn K mainGlobals "_law_is_rule" = some (some (.ref f_isr))) (l_isr : K.lookup f_isr = some ⟨oc_isr, od_isr, .func (PySem.W.fnOf "_law_is_rule" "_law_is_rule" (defArgs s_isr) (defBody s_isr) (defScope s_isr) .none kV_isr dc_isr pm_isr an_isr cd_isr ct_isr), sl_isr⟩) (c_isr : PySem.W.codeIn K cd_isr "_law_is_rule" = true) (k_isr : PySem.W.keepIn K (.ref f_isr) = true)
    {od_due an_due : Option Addr} {sl_due : Array (Option Value)} {oc_due kV_due dc_due pm_due cd_due ct_due : Value}
    (a_due : PySem.W.nsIn K mainGlobals "_law_due" = some (some (.ref f_due))) (l_due : K.lookup f_due = some ⟨oc_due, od_due, .func (PySem.W.fnOf "_law_due" "_law_due" (defArgs s_due) (defBody s_due) (defScope s_due) .none kV_due dc_due pm_due an_due cd_due ct_due), sl_due⟩) (c_due : PySem.W.codeIn K cd_due "_law_due" = true) (k_due : PySem.W.keepIn K (.ref f_due) = true)
    {od_mov an_mov : Option Addr} {sl_mov : Array (Option Value)} {oc_mov kV_mov dc_mov pm_mov cd_mov ct_mov : Value}
    (a_mov : PySem.W.nsIn K mainGlobals "_law_moved" = some (some (.ref f_mov))) (l_mov : K.lookup f_mov = some ⟨oc_mov, od_mov, .func (PySem.W.fnOf "_law_moved" "_law_moved" (defArgs s_mov) (defBody s_mov) (defScope s_mov) .none kV_mov dc_mov pm_mov an_mov cd_mov ct_mov), sl_mov⟩) (c_mov : PySem.W.codeIn K cd_mov "_law_moved" = true) (k_mov : PySem.W.keepIn K (.ref f_mov) = true)
    {od_pair an_pair : Option Addr} {sl_pair : Array (Option Value)} {oc_pair kV_pair dc_pair pm_pair cd_pair ct_pair : Value}
    (a_pair : PySem.W.nsIn K mainGlobals "_law_pair" = some (some (.ref f_pair))) (l_pair : K.lookup f_pair = some ⟨oc_pair, od_pair, .func (PySem.W.fnOf "_law_pair" "_law_pair" (defArgs s_pair) (defBody s_pair) (defScope s_pair) .none kV_pair dc_pair pm_pair an_pair cd_pair ct_pair), sl_pair⟩) (c_pair : PySem.W.codeIn K cd_pair "_law_pair" = true) (k_pair : PySem.W.keepIn K (.ref f_pair) = true)
    {od_law an_law : Option Addr} {sl_law : Array (Option Value)} {oc_law kV_law dc_law pm_law cd_law ct_law : Value}
    (a_law : PySem.W.nsIn K mainGlobals "law" = some (some (.ref f_law))) (l_law : K.lookup f_law = some ⟨oc_law, od_law, .func (PySem.W.fnOf "law" "law" (defArgs s_law) (defBody s_law) (defScope s_law) .none kV_law dc_law pm_law an_law cd_law ct_law), sl_law⟩) (c_law : PySem.W.codeIn K cd_law "law" = true) (k_law : PySem.W.keepIn K (.ref f_law) = true)
    (z_range : PySem.W.nsIn K mainGlobals "range" = some none) (z_len : PySem.W.nsIn K mainGlobals "len" = some none) (z_isinstance : PySem.W.nsIn K mainGlobals "isinstance" = some none) (z_int : PySem.W.nsIn K mainGlobals "int" = some none) (z_bool : PySem.W.nsIn K mainGlobals "bool" = some none) (z_tuple : PySem.W.nsIn K mainGlobals "tuple" = some none) (z_all : PySem.W.nsIn K mainGlobals "all" = some none) (z_zip : PySem.W.nsIn K mainGlobals "zip" = some none) (z_list : PySem.W.nsIn K mainGlobals "list" = some none)
     :
    ∃ fd : FuncData, (∀ (s : Shared) (v : Value), BindsTo s fd ⟨[v], []⟩ [("_law_script", v)]) ∧ ∀ base : Heap, K.In base → base.Ns mainGlobals mg → FnOk l.prog w K mg base CX0 6 fa fd ["_law_script"] (spLaw K) := by
  have e := hfa.symm.trans (PySem.W.mg_of X G a_law)
  cases e
  have T : Txt mg := ⟨PySem.W.mg_none_of X G z_range, PySem.W.mg_none_of X G z_len, PySem.W.mg_none_of X G z_isinstance, PySem.W.mg_none_of X G z_int, PySem.W.mg_none_of X G z_bool, PySem.W.mg_none_of X G z_tuple, PySem.W.mg_none_of X G z_all, PySem.W.mg_none_of X G z_zip, PySem.W.mg_none_of X G z_list⟩
  have cf : CF K mg ⟨⟩ := ⟨⟩
  have F_und := fun_mk (st := s_und) l_und c_und k_und
  have b_und := F_und.binds (ps := ["one", "other"]) fun _ _ _ _ _ _ us hl => match us, hl with | [_, _], _ => rfl
  have m_und := PySem.W.mg_of X G a_und
  have F_held := fun_mk (st := s_held) l_held c_held k_held
  have b_held := F_held.binds (ps := ["rule", "p"]) fun _ _ _ _ _ _ us hl => match us, hl with | [_, _], _ => rfl
  have m_held := PySem.W.mg_of X G a_held
  have F_rov := fun_mk (st := s_rov) l_rov c_rov k_rov
  have b_rov := F_rov.binds (ps := ["rule", "a", "b"]) fun _ _ _ _ _ _ us hl => match us, hl with | [_, _, _], _ => rfl
  have m_rov := PySem.W.mg_of X G a_rov
  have F_edges := fun_mk (st := s_edges) l_edges c_edges k_edges
  have b_edges := F_edges.binds (ps := ["rule"]) fun _ _ _ _ _ _ us hl => match us, hl with | [_], _ => rfl
  have m_edges := PySem.W.mg_of X G a_edges
  have F_with := fun_mk (st := s_with) l_with c_with k_with
  have b_with := F_with.binds (ps := ["one", "other"]) fun _ _ _ _ _ _ us hl => match us, hl with | [_, _], _ => rfl
  have m_with := PySem.W.mg_of X G a_with
  have F_cell := fun_mk (st := s_cell) l_cell c_cell k_cell
  have b_cell := F_cell.binds (ps := ["_law_script", "_law_k"]) fun _ _ _ _ _ _ us hl => match us, hl with | [_, _], _ => rfl
  have m_cell := PySem.W.mg_of X G a_cell
  have F_div := fun_mk (st := s_div) l_div c_div k_div
  have b_div := F_div.binds (ps := ["_law_one", "_law_other"]) fun _ _ _ _ _ _ us hl => match us, hl with | [_, _], _ => rfl
  have m_div := PySem.W.mg_of X G a_div
  have F_low := fun_mk (st := s_low) l_low c_low k_low
  have b_low := F_low.binds (ps := ["_law_top", "_law_bottom"]) fun _ _ _ _ _ _ us hl => match us, hl with | [_, _], _ => rfl
  have m_low := PySem.W.mg_of X G a_low
  have F_shk := fun_mk (st := s_shk) l_shk c_shk k_shk
  have b_shk := F_shk.binds (ps := ["_law_cell", "_law_kind"]) fun _ _ _ _ _ _ us hl => match us, hl with | [_, _], _ => rfl
  have m_shk := PySem.W.mg_of X G a_shk
  have F_less := fun_mk (st := s_less) l_less c_less k_less
  have b_less := F_less.binds (ps := ["_law_one", "_law_other"]) fun _ _ _ _ _ _ us hl => match us, hl with | [_, _], _ => rfl
  have m_less := PySem.W.mg_of X G a_less
  have F_srt := fun_mk (st := s_srt) l_srt c_srt k_srt
  have b_srt := F_srt.binds (ps := ["_law_some"]) fun _ _ _ _ _ _ us hl => match us, hl with | [_], _ => rfl
  have m_srt := PySem.W.mg_of X G a_srt
  have F_rule := fun_mk (st := s_rule) l_rule c_rule k_rule
  have b_rule := F_rule.binds (ps := ["_law_script", "_law_turn"]) fun _ _ _ _ _ _ us hl => match us, hl with | [_, _], _ => rfl
  have m_rule := PySem.W.mg_of X G a_rule
  have F_isr := fun_mk (st := s_isr) l_isr c_isr k_isr
  have b_isr := F_isr.binds (ps := ["_law_stretches"]) fun _ _ _ _ _ _ us hl => match us, hl with | [_], _ => rfl
  have m_isr := PySem.W.mg_of X G a_isr
  have F_due := fun_mk (st := s_due) l_due c_due k_due
  have b_due := F_due.binds (ps := ["_law_one", "_law_other"]) fun _ _ _ _ _ _ us hl => match us, hl with | [_, _], _ => rfl
  have m_due := PySem.W.mg_of X G a_due
  have F_mov := fun_mk (st := s_mov) l_mov c_mov k_mov
  have b_mov := F_mov.binds (ps := ["_law_rule_here", "_law_cell"]) fun _ _ _ _ _ _ us hl => match us, hl with | [_, _], _ => rfl
  have m_mov := PySem.W.mg_of X G a_mov
  have F_pair := fun_mk (st := s_pair) l_pair c_pair k_pair
  have b_pair := F_pair.binds (ps := ["_law_one", "_law_other"]) fun _ _ _ _ _ _ us hl => match us, hl with | [_, _], _ => rfl
  have m_pair := PySem.W.mg_of X G a_pair
  have F_law := fun_mk (st := s_law) l_law c_law k_law
  have b_law := F_law.binds (ps := ["_law_script"]) fun _ _ _ _ _ _ us hl => match us, hl with | [_], _ => rfl
  have m_law := PySem.W.mg_of X G a_law
  refine ⟨PySem.W.fnOf "law" "law" (defArgs s_law) (defBody s_law) (defScope s_law) .none kV_law dc_law pm_law an_law cd_law ct_law, fun s v => .of_eq rfl, fun base _ _ => ?_⟩
  have G_cell := ok_cell (P := l.prog) (w := w) (base := base) F_cell T
  have G_div := ok_div (P := l.prog) (w := w) (base := base) F_div T
  have G_low := ok_low (P := l.prog) (w := w) (base := base) F_low T (G_div.mono (by decide)) b_div k_div m_div
  have G_shk := ok_shk (P := l.prog) (w := w) (base := base) F_shk T (G_div.mono (by decide)) b_div k_div m_div (G_low.mono (by decide)) b_low k_low m_low
  have G_less := ok_less (P := l.prog) (w := w) (base := base) F_less T
  have G_srt := ok_srt (P := l.prog) (w := w) (base := base) F_srt T (G_less.mono (by decide)) b_less k_less m_less
  have G_rule := ok_rule (P := l.prog) (w := w) (base := base) F_rule T (G_cell.mono (by decide)) b_cell k_cell m_cell (G_shk.mono (by decide)) b_shk k_shk m_shk (G_srt.mono (by decide)) b_srt k_srt m_srt (G_less.mono (by decide)) b_less k_less m_less
  have G_isr := ok_isr (P := l.prog) (w := w) (base := base) F_isr T (G_less.mono (by decide)) b_less k_less m_less
  have G_mov := ok_mov (P := l.prog) (w := w) (base := base) F_mov T (G_shk.mono (by decide)) b_shk k_shk m_shk (G_isr.mono (by decide)) b_isr k_isr m_isr
  have G_und := ok_und (P := l.prog) (w := w) (base := base) F_und T
  have G_with := ok_with (P := l.prog) (w := w) (base := base) F_with T (G_und.mono (by decide)) b_und k_und m_und
  have G_due := ok_due (P := l.prog) (w := w) (base := base) F_due T (G_less.mono (by decide)) b_less k_less m_less
  have G_edges := ok_edges (P := l.prog) (w := w) (base := base) F_edges T (G_und.mono (by decide)) b_und k_und m_und
  have G_rov := ok_rov (P := l.prog) (w := w) (base := base) F_rov T (G_und.mono (by decide)) b_und k_und m_und
  have G_held := ok_held (P := l.prog) (w := w) (base := base) F_held T (G_rov.mono (by decide)) b_rov k_rov m_rov
  have G_pair := ok_pair (P := l.prog) (w := w) (base := base) F_pair T (G_with.mono (by decide)) b_with k_with m_with (G_due.mono (by decide)) b_due k_due m_due (G_edges.mono (by decide)) b_edges k_edges m_edges (G_held.mono (by decide)) b_held k_held m_held
  exact ok_law F_law T (G_cell.mono (by decide)) b_cell k_cell m_cell (G_rule.mono (by decide)) b_rule k_rule m_rule (G_mov.mono (by decide)) b_mov k_mov m_mov (G_pair.mono (by decide)) b_pair k_pair m_pair (G_with.mono (by decide)) b_with k_with m_with
theorem walk {l : PySem.W.OpenLaw} {q : Program} {loose : List Str} {XP : (Str → Option Value) → Heap → Prop} {YP : World → Heap → Prop} {d : DefRec} {K : Params → PySem.W.Frag} (hn : l.most = some 63) (hdf : d.params.defaults = [])
    (hY : ∀ (w : World) (h : Heap), YP w h → (K w.params).In h)
    (F : ∀ (w : World) (mg : Str → Option Value) (fa : Addr) (h : Heap), (K w.params).In h → h.Ns mainGlobals mg → mg d.name = some (.ref fa) →
      ∃ fd : FuncData, (∀ (s : Shared) (u : Value), BindsTo s fd ⟨[u], []⟩ [("_law_script", u)]) ∧ ∀ base : Heap, (K w.params).In base → base.Ns mainGlobals mg → FnOk l.prog w (K w.params) mg base CX0 6 fa fd ["_law_script"] (spLaw (K w.params))) :
    PySem.W.WalkO q loose XP YP l.row.toRowW d [] (fun f vs => PySem.call f vs) :=
  L2.walk_ofB (n := 63) (k := 6) (x := "_law_script") (CX := fun _ => CX0) (sp := fun w => spLaw (K w.params)) hn (by decide) hdf ⟨rfl, by decide, by decide⟩ hY F (fun _ _ a ns hl hb _ hS => ⟨a, ns, rfl, hS, hl, hb, fun _ => rfl⟩) fun _ _ _ _ _ z => z
end K15
open PySem PySem.W PyProof.Rows
set_option maxRecDepth 100000 in
set_option maxHeartbeats 0 in
theorem PySem.Challenge.cw_surestretch_k15_rules_within_others_holds : PySem.Challenge.rw_surestretch_k15_rules_within_others.Holds := by
  w_on; o_law; k_head; (case hw => w_witness2)
  k_fill
  refine K15.walk (l := PySem.Challenge.rw_surestretch_k15_rules_within_others) rfl rfl (fun w h Y => PySem.W.kIn_of Y) ?F
  case F =>
    intro w mg fa h KX G hmg
    refine' K15.all_mk KX G hmg ?a_und ?l_und ?c_und ?k_und ?a_held ?l_held ?c_held ?k_held ?a_rov ?l_rov ?c_rov ?k_rov ?a_edges ?l_edges ?c_edges ?k_edges ?a_with ?l_with ?c_with ?k_with ?a_cell ?l_cell ?c_cell ?k_cell ?a_div ?l_div ?c_div ?k_div ?a_low ?l_low ?c_low ?k_low ?a_shk ?l_shk ?c_shk ?k_shk ?a_less ?l_less ?c_less ?k_less ?a_srt ?l_srt ?c_srt ?k_srt ?a_rule ?l_rule ?c_rule ?k_rule ?a_isr ?l_isr ?c_isr ?k_isr ?a_due ?l_due ?c_due ?k_due ?a_mov ?l_mov ?c_mov ?k_mov ?a_pair ?l_pair ?c_pair ?k_pair ?a_law ?l_law ?c_law ?k_law ?z_range ?z_len ?z_isinstance ?z_int ?z_bool ?z_tuple ?z_all ?z_zip ?z_list
    (case a_und => k_is); (case l_und => k_is); (case c_und => k_is); (case k_und => k_is); (case a_held => k_is); (case l_held => k_is); (case c_held => k_is); (case k_held => k_is)
    (case a_rov => k_is); (case l_rov => k_is); (case c_rov => k_is); (case k_rov => k_is); (case a_edges => k_is); (case l_edges => k_is); (case c_edges => k_is); (case k_edges => k_is)
    (case a_with => k_is); (case l_with => k_is); (case c_with => k_is); (case k_with => k_is); (case a_cell => k_is); (case l_cell => k_is); (case c_cell => k_is); (case k_cell => k_is)
    (case a_div => k_is); (case l_div => k_is); (case c_div => k_is); (case k_div => k_is); (case a_low => k_is); (case l_low => k_is); (case c_low => k_is); (case k_low => k_is)
    (case a_shk => k_is); (case l_shk => k_is); (case c_shk => k_is); (case k_shk => k_is); (case a_less => k_is); (case l_less => k_is); (case c_less => k_is); (case k_less => k_is)
    (case a_srt => k_is); (case l_srt => k_is); (case c_srt => k_is); (case k_srt => k_is); (case a_rule => k_is); (case l_rule => k_is); (case c_rule => k_is); (case k_rule => k_is)
    (case a_isr => k_is); (case l_isr => k_is); (case c_isr => k_is); (case k_isr => k_is); (case a_due => k_is); (case l_due => k_is); (case c_due => k_is); (case k_due => k_is)
    (case a_mov => k_is); (case l_mov => k_is); (case c_mov => k_is); (case k_mov => k_is); (case a_pair => k_is); (case l_pair => k_is); (case c_pair => k_is); (case k_pair => k_is)
    (case a_law => k_is); (case l_law => k_is); (case c_law => k_is); (case k_law => k_is); (case z_range => k_is); (case z_len => k_is); (case z_isinstance => k_is); (case z_int => k_is)
    (case z_bool => k_is); (case z_tuple => k_is); (case z_all => k_is); (case z_zip => k_is); (case z_list => k_is)