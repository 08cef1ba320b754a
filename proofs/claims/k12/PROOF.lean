import PyProof.Rows.All
import Wide.All
import OpenK.AllK
import Wide.FinOn
import Lean
import PyProof.EqAt
import PyProof.EqKinds
import PyProof.TupleCall
import PySem.Challenge.RW_meldhouse_k12_refusals_apart
set_option Elab.async false
set_option linter.all false
set_option maxRecDepth 100000
namespace L2
open PySem PySem.Spec PyProof.Rows
noncomputable abbrev Key := Sum Int Str
noncomputable def keyIs : Key → Value → Bool
  | .inl k, v => Value.isInt k v
  | .inr x, v => Value.isStrOf x v
noncomputable def keyH (w : World) : Key → Int
  | .inl k => hashInt k
  | .inr x => hashStr w x
theorem keyIs_shape : ∀ {k : Key} {v : Value}, keyIs k v = true → (∃ i t, k = Sum.inl i ∧ v = Value.int i t) ∨ (∃ x t, k = Sum.inr x ∧ v = Value.str x t)
  | .inl i, v, h => by
    obtain ⟨t, e⟩ := Value.isInt_shape (k := i) (v := v) h
    exact .inl ⟨i, t, rfl, e⟩
  | .inr x, v, h => by
    obtain ⟨t, e⟩ := Value.isStrOf_shape (x := x) (v := v) h
    exact .inr ⟨x, t, rfl, e⟩
theorem keyIs_str (x : Str) (t : Tok) : keyIs (.inr x) (.str x t) = true := by simp [keyIs, Value.isStrOf]
theorem key_ll (a b : Int) : decide ((Sum.inl a : Key) = Sum.inl b) = (a == b) := by
  by_cases e : a = b
  · subst e; simp
  · have h : ¬ (Sum.inl a : Key) = Sum.inl b := fun q => e (Sum.inl.inj q)
    rw [decide_eq_false h]
    exact (beq_eq_false_iff_ne.mpr e).symm
theorem key_rr (a b : Str) : decide ((Sum.inr a : Key) = Sum.inr b) = decide (a = b) := by
  by_cases e : a = b
  · subst e; simp
  · have h : ¬ (Sum.inr a : Key) = Sum.inr b := fun q => e (Sum.inr.inj q)
    rw [decide_eq_false h, decide_eq_false e]
theorem key_lr (a : Int) (b : Str) : decide ((Sum.inl a : Key) = Sum.inr b) = false := decide_eq_false (fun q => nomatch q)
theorem key_rl (a : Str) (b : Int) : decide ((Sum.inr a : Key) = Sum.inl b) = false := decide_eq_false (fun q => nomatch q)
noncomputable def mixKind (prog : Program) (w : World) : PySem.KeyKind prog w Key where
  is := keyIs
  hash := keyH w
  inj := fun v a b ha hb => by
    rcases keyIs_shape ha with ⟨i, t, rfl, rfl⟩ | ⟨x, t, rfl, rfl⟩
    · rcases keyIs_shape hb with ⟨j, u, rfl, e⟩ | ⟨y, u, rfl, e⟩
      · injection e with e1 _; rw [e1]
      · exact nomatch e
    · rcases keyIs_shape hb with ⟨j, u, rfl, e⟩ | ⟨y, u, rfl, e⟩
      · exact nomatch e
      · injection e with e1 _; rw [e1]
  byValue := fun k v h => by
    rcases keyIs_shape h with ⟨i, t, rfl, rfl⟩ | ⟨x, t, rfl, rfl⟩ <;> rfl
  pyHash := fun hv h => by
    rcases keyIs_shape hv with ⟨i, t, rfl, rfl⟩ | ⟨x, t, rfl, rfl⟩
    · exact wpAny_pyHash_int h
    · exact wpAny_pyHash_str h
  eqBool := fun hu hv h => by
    rcases keyIs_shape hu with ⟨i, t, rfl, rfl⟩ | ⟨x, t, rfl, rfl⟩
    · rcases keyIs_shape hv with ⟨j, u, rfl, rfl⟩ | ⟨y, u, rfl, rfl⟩
      · rw [key_ll] at h; exact wpAny_eqBool_int h
      · rw [key_lr] at h; exact SeqAt.EqAt.int_str i t y u _ _ _ _ h
    · rcases keyIs_shape hv with ⟨j, u, rfl, rfl⟩ | ⟨y, u, rfl, rfl⟩
      · rw [key_rl] at h; exact SeqAt.EqAt.str_int x t j u _ _ _ _ h
      · rw [key_rr] at h; exact wpAny_eqBool_str h
  «strs» := fun k x t v h => by
    rcases keyIs_shape h with ⟨i, u, rfl, e⟩ | ⟨y, u, rfl, e⟩
    · exact nomatch e
    · injection e with e1 _
      subst e1
      cases v <;> rfl
theorem mixKind_str (prog : Program) (w : World) (x : Str) (t : Tok) : (mixKind prog w).is (.inr x) (.str x t) = true := keyIs_str x t
end L2
namespace L2
open PySem PySem.Spec PyProof.Rows
inductive V where
  | non | bl (b : Bool) | int (i : Int) | str (x : Str) | byt (b : Array UInt8) | flt (b : UInt64) | ref (a : Addr) | ty (n : String)
  deriving DecidableEq
noncomputable def RelV : V → Value → Prop
  | .non, u => u = Value.none
  | .bl b, u => u = Value.bool b
  | .int i, u => ∃ t, u = Value.int i t
  | .str x, u => ∃ t, u = Value.str x t
  | .byt b, u => ∃ t, u = Value.bytes b t
  | .flt b, u => ∃ t, u = Value.float b t
  | .ref a, u => u = Value.ref a
  | .ty n, u => u = Value.type n
noncomputable abbrev Vals : List V → List Value → Prop := Paired RelV
theorem Vals.length {xs : List V} {us : List Value} (r : Vals xs us) : xs.length = us.length := Paired.length r
theorem Vals.get : ∀ {xs : List V} {us : List Value} {i : Nat} {x : V}, Vals xs us → xs[i]? = some x → ∃ u, us[i]? = some u ∧ RelV x u
  | _, _, _, _, .nil, e => by simp at e
  | _, _, 0, _, .cons r _, e => by simp at e; subst e; exact ⟨_, rfl, r⟩
  | _, _, i + 1, x, .cons _ t, e => by
    obtain ⟨u, h1, h2⟩ := Vals.get (i := i) (x := x) t (by simpa using e)
    exact ⟨u, by simpa using h1, h2⟩
theorem Vals.set {x : V} {u : Value} (r : RelV x u) : ∀ {xs : List V} {us : List Value} (i : Nat), Vals xs us → Vals (xs.set i x) (us.set i u)
  | _, _, _, .nil => .nil
  | _, _, 0, .cons _ t => .cons r t
  | _, _, i + 1, .cons q t => .cons q (Vals.set r i t)
theorem Vals.append : ∀ {xs ys : List V} {us ws : List Value}, Vals xs us → Vals ys ws → Vals (xs ++ ys) (us ++ ws)
  | _, _, _, _, .nil, s => s
  | _, _, _, _, .cons r t, s => .cons r (Vals.append t s)
theorem Vals.take : ∀ {xs : List V} {us : List Value} (n : Nat), Vals xs us → Vals (xs.take n) (us.take n)
  | _, _, 0, _ => .nil
  | _, _, _ + 1, .nil => .nil
  | _, _, n + 1, .cons r t => .cons r (Vals.take n t)
theorem Vals.drop : ∀ {xs : List V} {us : List Value} (n : Nat), Vals xs us → Vals (xs.drop n) (us.drop n)
  | _, _, 0, r => r
  | _, _, _ + 1, .nil => .nil
  | _, _, n + 1, .cons _ t => Vals.drop n t
noncomputable def RelO : Option V → Option Value → Prop
  | some v, some u => RelV v u
  | none, none => True
  | _, _ => False
noncomputable def KV {κ : Type} : List (κ × V) → List (κ × Value) → Prop := Paired fun (p : κ × V) (q : κ × Value) => p.1 = q.1 ∧ RelV p.2 q.2
noncomputable def kV : Key → V
  | .inl i => .int i
  | .inr x => .str x
inductive HO where
  | lst (xs : List V)
  | tup (xs : List V)
  | dK (kvs : List (Key × V)) | dT (kvs : List (List Key × V))
  | set (S : Int → Bool) (n : Nat)
  | ins (C dx : Addr) (fs : List (Str × V))
  | own (x : Addr)
  | xd (fs : List (Str × V))
  | met (f x : Addr)
  | rng (lo hi : Int)
  | frz (o : Obj) (u : HO)
  | tbl (ps : Array Value)
  | ext (φ : Heap → Prop)
noncomputable abbrev Hp := Addr → Option HO
noncomputable def upd (H : Hp) (a : Addr) (o : HO) : Hp := fun b => if b = a then some o else H b
theorem upd_same {H : Hp} {a : Addr} {o : HO} : upd H a o a = some o := by unfold upd; rw [if_pos rfl]
theorem upd_ne {H : Hp} {a b : Addr} {o : HO} (h : b ≠ a) : upd H a o b = H b := by unfold upd; rw [if_neg h]
theorem ne_of_none {H : Hp} {a b : Addr} {o : HO} (h : H a = some o) (h' : H b = none) : a ≠ b := by
  intro e; subst e; rw [h] at h'; cases h'
section
variable (P : Program) (w : World)
noncomputable def ObjOk (H : Hp) (h : Heap) (a : Addr) : HO → Prop
  | .lst xs => xs.length ≤ sizeLine ∧ ∃ (its : List Value) (n : Nat), Vals xs its ∧ h.get? a = some { cls := .type "list", data := .seq its.toArray n }
  | .tup xs => xs.length ≤ sizeLine ∧ ∃ its : List Value, Vals xs its ∧ IsTup h a its.toArray
  | .dK kvs => kvs.length ≤ sizeLine ∧ (a == sysModules) = false ∧ ∃ vs, KV kvs vs ∧ h.DictOf (mixKind P w) a vs
  | .dT kvs => kvs.length ≤ sizeLine ∧ (a == sysModules) = false ∧ ∃ xs : List (List Key × Addr × Value),
      Paired (fun (p : List Key × V) (q : List Key × Addr × Value) => p.1 = q.1 ∧ H q.2.1 = some (.tup (p.1.map kV)) ∧ RelV p.2 q.2.2) kvs xs ∧
      ∃ o es ep, h.get? a = some o ∧ o.ExactDict ∧ o.data = .dict es ep ∧ es.toList = xs.map (entryOfKey (tupleKind (mixKind P w))) ∧ (xs.map (·.1)).Nodup
  | .set S n => h.SetOf (intKind P w) a S n
  | .ins C dx fs => H dx = some (.own a) ∧ fs.length ≤ 1000 ∧ dx ≠ a ∧ h.get? a = some (PySem.W.instObj C dx) ∧
      ∃ mA, h.Ns1 dx mA ∧ (∀ f, RelO (fs.lookup f) (mA f)) ∧ PySem.Within mA (fs.map (·.1))
  | .own _ => ∃ o, h.get? a = some o
  | .xd fs => ∃ mA, h.Ns1 a mA ∧ ∀ f, RelO (fs.lookup f) (mA f)
  | .rng lo hi => ∃ t u v, h.get? a = some { cls := .type "range", data := .fields #[.int lo t, .int hi u, .int 1 v] }
  | .frz o u => h.get? a = some o ∧ ObjOk H h a u
  | .tbl ps => h.get? a = some { cls := .none, data := .fields ps }
  | .met f x => h.get? a = some (PySem.W.methodObj (.ref f) (.ref x))
  | .ext φ => φ h ∧ (∃ o, h.get? a = some o) ∧ ∀ h1 h2 : Heap, φ h1 → (∀ o, h1.get? a = some o → h2.get? a = some o) → φ h2
noncomputable def HOk (H : Hp) (h : Heap) : Prop := ∀ a o, H a = some o → ObjOk P w H h a o
end
section
variable {P : Program} {w : World} {H H' : Hp} {h h' : Heap} {a : Addr} {o : HO}
theorem ObjOk.lt (x : ObjOk P w H h a o) : a < h.objs.size := by
  cases o with
  | lst xs => obtain ⟨_, _, _, _, e⟩ := x; exact Heap.lt_size e
  | tup xs => obtain ⟨_, _, _, p⟩ := x; exact p.lt
  | dK kvs => obtain ⟨_, _, _, _, o, _, _, e, _⟩ := x; exact Heap.lt_size e
  | dT kvs => obtain ⟨_, _, _, _, o, _, _, e, _⟩ := x; exact Heap.lt_size e
  | set S n => obtain ⟨o, _, _, _, e, _⟩ := x; exact Heap.lt_size e
  | ins C dx fs => obtain ⟨_, _, _, e, _⟩ := x; exact Heap.lt_size e
  | own y => obtain ⟨_, e⟩ := x; exact Heap.lt_size e
  | xd fs => obtain ⟨_, ⟨_, _, _, e, _⟩, _⟩ := x; exact Heap.lt_size e
  | rng lo hi => obtain ⟨_, _, _, e⟩ := x; exact Heap.lt_size e
  | frz ob u => obtain ⟨e, _⟩ := x; exact Heap.lt_size e
  | tbl ps => exact Heap.lt_size (show h.get? a = some _ from x)
  | met f y => exact Heap.lt_size (show h.get? a = some _ from x)
  | ext φ => obtain ⟨_, ⟨_, e⟩, _⟩ := x; exact Heap.lt_size e
theorem Paired.mapP {α β : Type} {F G : α → β → Prop} : ∀ {l₁ : List α} {l₂ : List β}, Paired F l₁ l₂ → (∀ a b, F a b → G a b) → Paired G l₁ l₂
  | _, _, .nil, _ => .nil
  | _, _, .cons r t, f => .cons (f _ _ r) (Paired.mapP t f)
theorem ObjOk.stay (x : ObjOk P w H h a o) (k : ∀ b u, (b = a ∨ H b = some (.own a)) → h.get? b = some u → h'.get? b = some u)
    (ho : ∀ b, H b = some (.own a) → H' b = some (.own a)) (ht : ∀ b xs, H b = some (.tup xs) → H' b = some (.tup xs)) : ObjOk P w H' h' a o := by
  induction o with
  | lst xs => obtain ⟨z, its, n, r, e⟩ := x; exact ⟨z, its, n, r, k _ _ (.inl rfl) e⟩
  | tup xs => obtain ⟨z, its, r, ob, e, c⟩ := x; exact ⟨z, its, r, ob, k _ _ (.inl rfl) e, c⟩
  | dK kvs => obtain ⟨z, y, vs, r, ob, es, ep, e, c⟩ := x; exact ⟨z, y, vs, r, ob, es, ep, k _ _ (.inl rfl) e, c⟩
  | dT kvs =>
    obtain ⟨z, y, xs, r, ob, es, ep, e, c⟩ := x
    exact ⟨z, y, xs, Paired.mapP r fun p q z => ⟨z.1, ht _ _ z.2.1, z.2.2⟩, ob, es, ep, k _ _ (.inl rfl) e, c⟩
  | set S n => obtain ⟨ob, es, ep, t, e, c⟩ := x; exact ⟨ob, es, ep, t, k _ _ (.inl rfl) e, c⟩
  | ins C dx fs =>
    obtain ⟨d, z, ne, e, mA, ⟨od, es, ep, e2, c⟩, r⟩ := x
    exact ⟨ho _ d, z, ne, k _ _ (.inl rfl) e, mA, ⟨od, es, ep, k _ _ (.inr d) e2, c⟩, r⟩
  | own y => obtain ⟨ob, e⟩ := x; exact ⟨ob, k _ _ (.inl rfl) e⟩
  | xd fs => obtain ⟨mA, ⟨od, es, ep, e, c⟩, r⟩ := x; exact ⟨mA, ⟨od, es, ep, k _ _ (.inl rfl) e, c⟩, r⟩
  | rng lo hi => obtain ⟨t, u, v, e⟩ := x; exact ⟨t, u, v, k _ _ (.inl rfl) e⟩
  | frz ob u ih => obtain ⟨e, q⟩ := x; exact ⟨k _ _ (.inl rfl) e, ih q⟩
  | tbl ps =>
    have e : h.get? a = some { cls := .none, data := .fields ps } := x
    show h'.get? a = some { cls := .none, data := .fields ps }
    exact k a _ (.inl rfl) e
  | met f y =>
    have e : h.get? a = some (PySem.W.methodObj (.ref f) (.ref y)) := x
    show h'.get? a = some (PySem.W.methodObj (.ref f) (.ref y))
    exact k a _ (.inl rfl) e
  | ext φ => obtain ⟨p, ⟨o, e⟩, st⟩ := x; exact ⟨st _ _ p fun o q => k _ _ (.inl rfl) q, ⟨o, k _ _ (.inl rfl) e⟩, st⟩
theorem HOk.lt (x : HOk P w H h) (e : H a = some o) : a < h.objs.size := (x a o e).lt
theorem HOk.fresh (x : HOk P w H h) (e : h.objs.size ≤ a) : H a = none := by
  cases q : H a with
  | none => rfl
  | some u => exact absurd (Nat.lt_of_lt_of_le (x.lt q) e) (Nat.lt_irrefl _)
theorem HOk.kept (x : HOk P w H h) (k : ∀ b u, h.get? b = some u → h'.get? b = some u) : HOk P w H h' := fun a o e =>
  (x a o e).stay (fun b u _ q => k b u q) (fun _ q => q) fun _ _ q => q
theorem HOk.laid (x : HOk P w H h) (k : ∀ b u, h.get? b = some u → h'.get? b = some u) (hp : h.objs.size ≤ a) (new : ObjOk P w (upd H a o) h' a o) : HOk P w (upd H a o) h' := fun b u e => by
  have hn := x.fresh hp
  by_cases hb : b = a
  · subst hb; rw [upd_same] at e; cases e; exact new
  · rw [upd_ne hb] at e
    exact (x b u e).stay (fun c v _ q => k c v q) (fun c q => by rw [upd_ne (ne_of_none q hn)]; exact q) fun c xs q => by rw [upd_ne (ne_of_none q hn)]; exact q
end
noncomputable def Rd (H : Hp) (a : Addr) (u : HO) : Prop := H a = some u ∨ ∃ o, H a = some (.frz o u)
theorem Rd.of {H : Hp} {a : Addr} {u : HO} (h : H a = some u) : Rd H a u := .inl h
theorem Rd.ok {P : Program} {w : World} {H : Hp} {h : Heap} {a : Addr} {u : HO} (r : Rd H a u) (x : HOk P w H h) : ObjOk P w H h a u := by
  rcases r with r | ⟨o, r⟩
  · exact x a u r
  · obtain ⟨_, q⟩ := x a _ r
    exact q
noncomputable def Mut : Option HO → Prop
  | some (.lst _) => True
  | some (.dK _) => True
  | some (.dT _) => True
  | some (.set _ _) => True
  | some (.ins _ _ _) => True
  | some (.ext _) => True
  | _ => False
section
variable {P : Program} {w : World} {H : Hp} {h h' : Heap} {x e : Addr} {o' : HO}
theorem HOk.write (ok : HOk P w H h) (mu : Mut (H x)) (he : e = x ∨ H e = some (.own x)) (k : ∀ b u, b ≠ e → h.get? b = some u → h'.get? b = some u) (heo : ∃ u, h'.get? e = some u)
    (new : ObjOk P w (upd H x o') h' x o') : HOk P w (upd H x o') h' := fun b u q => by
  have nown : ∀ c y, H c = some (.own y) → c ≠ x := fun c y r z => by subst z; rw [r] at mu; exact mu
  have ntup : ∀ c xs, H c = some (.tup xs) → c ≠ x := fun c xs r z => by subst z; rw [r] at mu; exact mu
  by_cases hb : b = x
  · subst hb; rw [upd_same] at q; cases q; exact new
  · rw [upd_ne hb] at q
    by_cases hbe : b = e
    · have q' : H b = some (.own x) := by
        rcases he with z | z
        · exact absurd (hbe.trans z) hb
        · rw [hbe]; exact z
      rw [q] at q'; cases q'
      obtain ⟨v, hv⟩ := heo
      exact ⟨v, by rw [hbe]; exact hv⟩
    · refine (ok b u q).stay (fun c v hc r => k c v ?_ r) (fun c r => by rw [upd_ne (nown c b r)]; exact r) fun c xs r => by rw [upd_ne (ntup c xs r)]; exact r
      rcases hc with rfl | hc
      · exact hbe
      · rintro rfl
        rcases he with z | z
        · exact nown c b hc z
        · rw [hc] at z; cases z; exact hb rfl
end
structure Un (fs ex : List Addr) (H H' : Hp) (h h' : Heap) : Prop where
  keep : ∀ b o, h.get? b = some o → H b = none → b ∉ fs → b ∉ ex → h'.get? b = some o
  slot : ∀ b o, h.get? b = some o → H b = none → b ∈ fs → b ∉ ex → ∃ sl, h'.get? b = some { o with slots := sl }
  free : ∀ b o, h.get? b = some o → H b = none → b ∉ ex → H' b = none
  there : ∀ b o, h.get? b = some o → b ∉ ex → ∃ o', h'.get? b = some o'
  tups : ∀ b xs, H b = some (.tup xs) → H' b = some (.tup xs)
  frzs : ∀ b o u, H b = some (.frz o u) → H' b = some (.frz o u)
  tbls : ∀ b ps, H b = some (.tbl ps) → ∃ more, H' b = some (.tbl (ps ++ more))
section
variable {fs fs' ex ex' : List Addr} {H H1 H2 : Hp} {h h1 h2 h' : Heap} {a x e : Addr} {o : HO}
theorem Un.any (u : Un fs ex H H1 h h1) {b : Addr} {ob : Obj} (q : h.get? b = some ob) (n : H b = none) (hx : b ∉ ex) : ∃ sl, h1.get? b = some { ob with slots := sl } := by
  by_cases hb : b ∈ fs
  · exact u.slot b ob q n hb hx
  · exact ⟨ob.slots, u.keep b ob q n hb hx⟩
theorem Un.trans (a : Un fs ex H H1 h h1) (b : Un fs ex H1 H2 h1 h2) : Un fs ex H H2 h h2 where
  keep := fun c ob q n hc hx => b.keep c ob (a.keep c ob q n hc hx) (a.free c ob q n hx) hc hx
  slot := fun c ob q n hc hx => by
    obtain ⟨sl, e1⟩ := a.slot c ob q n hc hx
    obtain ⟨sl', e2⟩ := b.slot c _ e1 (a.free c ob q n hx) hc hx
    exact ⟨sl', e2⟩
  free := fun c ob q n hx => by
    obtain ⟨o', e1⟩ := a.there c ob q hx
    exact b.free c o' e1 (a.free c ob q n hx) hx
  there := fun c ob q hx => by
    obtain ⟨o', e1⟩ := a.there c ob q hx
    exact b.there c o' e1 hx
  tups := fun c xs q => b.tups c xs (a.tups c xs q)
  frzs := fun c ob xs q => b.frzs c ob xs (a.frzs c ob xs q)
  tbls := fun c ps q => by
    obtain ⟨m1, e1⟩ := a.tbls c ps q
    obtain ⟨m2, e2⟩ := b.tbls c _ e1
    exact ⟨m1 ++ m2, by rw [e2, Array.append_assoc]⟩
theorem Un.kept (k : ∀ b u, h.get? b = some u → h'.get? b = some u) : Un fs ex H H h h' :=
  ⟨fun b ob q _ _ _ => k b ob q, fun b ob q _ _ _ => ⟨ob.slots, k b ob q⟩, fun _ _ _ n _ => n, fun b ob q _ => ⟨ob, k b ob q⟩, fun _ _ q => q, fun _ _ _ q => q, fun _ ps q => ⟨#[], by rw [q]; simp⟩⟩
theorem Un.refl : Un fs ex H H h h := Un.kept fun _ _ q => q
theorem Un.laid (k : ∀ b u, h.get? b = some u → h'.get? b = some u) (hp : h.objs.size ≤ a) (hn : H a = none) : Un fs ex H (upd H a o) h h' where
  keep := fun b u q _ _ _ => k b u q
  slot := fun b u q _ _ _ => ⟨u.slots, k b u q⟩
  free := fun b u q n _ => by rw [upd_ne (Nat.ne_of_lt (Nat.lt_of_lt_of_le (Heap.lt_size q) hp))]; exact n
  there := fun b u q _ => ⟨u, k b u q⟩
  tups := fun b xs q => by rw [upd_ne (ne_of_none q hn)]; exact q
  frzs := fun b u xs q => by rw [upd_ne (ne_of_none q hn)]; exact q
  tbls := fun b ps q => ⟨#[], by rw [upd_ne (ne_of_none q hn), q]; simp⟩
theorem Un.write (mu : Mut (H x)) (he : e = x ∨ H e = some (.own x)) (k : ∀ b u, b ≠ e → h.get? b = some u → h'.get? b = some u) (heo : ∃ u, h'.get? e = some u) : Un fs ex H (upd H x o) h h' := by
  have hx : ∀ b, H b = none → b ≠ x := fun b n z => by subst z; rw [n] at mu; exact mu
  have hb : ∀ b, H b = none → b ≠ e := fun b n z => by
    subst z
    rcases he with r | r
    · exact hx b n r
    · rw [n] at r; cases r
  have hm : ∀ b u, H b = some u → ¬ Mut (some u) → b ≠ x := fun b u q nm z => by subst z; rw [q] at mu; exact nm mu
  refine ⟨fun b u q n _ _ => k b u (hb b n) q, fun b u q n _ _ => ⟨u.slots, k b u (hb b n) q⟩, fun b u q n _ => by rw [upd_ne (hx b n)]; exact n, fun b u q _ => ?_,
    fun b xs q => by rw [upd_ne (hm b _ q fun z => z)]; exact q, fun b u xs q => by rw [upd_ne (hm b _ q fun z => z)]; exact q, fun b ps q => ⟨#[], by rw [upd_ne (hm b _ q fun z => z), q]; simp⟩⟩
  by_cases hbe : b = e
  · subst hbe; exact heo
  · exact ⟨u, k b u hbe q⟩
theorem Un.mono (u : Un fs ex H H1 h h1) (hs : ∀ b ∈ fs, b ∈ fs') (hx : ∀ b ∈ ex, b ∈ ex') : Un fs' ex' H H1 h h1 :=
  ⟨fun b ob q n hb he => u.keep b ob q n (fun z => hb (hs b z)) fun z => he (hx b z), fun _ _ q n _ he => u.any q n fun z => he (hx _ z), fun b ob q n he => u.free b ob q n fun z => he (hx b z), fun b ob q he => u.there b ob q fun z => he (hx b z), u.tups, u.frzs, u.tbls⟩
end
noncomputable def trk (h : Heap) (H : Hp) : List Addr := (List.range h.objs.size).filter fun a => (H a).isSome
noncomputable def hidT (h : Heap) (H : Hp) : Heap := PySem.W.hideAll h (trk h H)
theorem hidT_size (h : Heap) (H : Hp) : (hidT h H).objs.size = h.objs.size := PySem.W.hideAll_size _ _
theorem hidT_get {h : Heap} {H : Hp} {b : Addr} {o : Obj} (e : h.get? b = some o) (n : H b = none) : (hidT h H).get? b = some o :=
  PySem.W.hideAll_get _ e fun hm => by
    have q : (H b).isSome = true := (List.mem_filter.mp hm).2
    rw [n] at q; simp at q
theorem of_hidT {h : Heap} {H : Hp} {b : Addr} {o : Obj} (e : (hidT h H).get? b = some o) : h.get? b = some o ∧ H b = none := by
  have e' : h.get? b = some o := PySem.W.of_hideAll (trk h H) e
  refine ⟨e', ?_⟩
  cases q : H b with
  | none => rfl
  | some x =>
    have hm : b ∈ trk h H := List.mem_filter.mpr ⟨List.mem_range.mpr (Heap.lt_size e'), by simp [q]⟩
    have z : (hidT h H).get? b = none := PySem.W.hideAll_none (trk h H) hm
    rw [z] at e; cases e
noncomputable def allNews (g h : Heap) (L : Addr) : List (Addr × Obj) := (List.range h.objs.size).filterMap fun a => if a = L ∨ (g.get? a).isSome = true then none else (h.get? a).map fun o => (a, o)
noncomputable def rest (g h : Heap) (L d : Addr) : List (Addr × Obj) := (allNews g h L).filter fun p => decide (p.1 ≠ d)
end L2
namespace L2
open PySem PySem.Spec PyProof.Rows
structure Mod (K : PySem.W.Frag) (mg : Str → Option Value) (base : Heap) : Prop where
  kin : K.In base
  glob : base.Ns mainGlobals mg
  blt : ∃ mb, base.Ns builtinsNs mb ∧ ∀ x : Str, x ≠ "__name__" → mb x = bootBuiltins x
  nolimit : base.NoLimit
structure Cx where
  prog : Program
  w : World
  K : PySem.W.Frag
  mg : Str → Option Value
  base : Heap
  A : Around
  N : List Str
  s₀ : Shared
  H₀ : Hp
  env : Env
  outer : List Env
  stack : List Env
  ex : List Addr
  fn : Str → Bool
  calm : Bool
  pn : List (Addr × Obj)
  xe : Value → Shared → Prop
noncomputable def frs (l : List Env) : List Addr := l.filterMap (·.frame)
noncomputable abbrev Cx.fs (X : Cx) : List Addr := frs X.outer
noncomputable def Vis (sc : Scope) (x : Str) : Prop := sc.names.lookup x = some .local ∨ sc.names.lookup x = some .cell ∨ sc.names.lookup x = some .free
noncomputable def Loc (sc : Scope) (x : Str) : Prop := sc.names.lookup x = some .local ∨ sc.names.lookup x = some .cell
noncomputable def Look (env : Env) (h : Heap) (m : Str → Option Value) (x : Str) (u : Value) : Prop :=
  (env.kindOf x = some .local ∧ m x = some u) ∨ ((env.kindOf x = some .cell ∨ env.kindOf x = some .free) ∧ ∃ c, env.cells.lookup x = some c ∧ h.IsCell c (some u))
structure Cx.Ok (X : Cx) : Prop where
  mod : Mod X.K X.mg X.base
  kind : X.env.scope.kind = .function
  glob : X.env.globals = mainGlobals
  blt : X.env.builtins = builtinsNs
  above : X.s₀.heap.objs.size ≤ X.env.locals
  inj : ∀ x y c, X.env.cells.lookup x = some c → X.env.cells.lookup y = some c → x = y
  has : ∀ x, (X.env.kindOf x = some .cell ∨ X.env.kindOf x = some .free) → ∃ c, X.env.cells.lookup x = some c
  cab : ∀ x c, X.fn x = true → X.env.cells.lookup x = some c → X.s₀.heap.objs.size ≤ c
  hd : X.calm = true → X.A.handled = none
  frames : X.A.frames = some X.stack
  stk : X.stack = X.outer ∨ (X.stack = X.env :: X.outer ∧ X.env.frame = some X.env.locals)
  exf : ∀ b ∈ X.ex, b ≠ X.env.locals ∧ ∀ x c, X.env.cells.lookup x = some c → c ≠ b
  bs : ∀ b o, X.base.get? b = some o → X.s₀.heap.get? b = some o ∧ X.H₀ b = none
  bsz : X.base.objs.size ≤ X.s₀.heap.objs.size
  noex : ∀ b o, X.base.get? b = some o → b ∉ X.ex
  exfs : ∀ b ∈ X.ex, b ∉ X.fs
  funs : X.s₀.heap.FunFrames X.base X.outer
  frf : ∀ b ∈ X.fs, X.H₀ b = none
structure Inv (X : Cx) (pins : List (Addr × Obj)) (σ : List (Option V)) (H : Hp) (s : Shared) : Prop where
  ok : X.Ok
  os : s.os = X.s₀.os
  bare : AllBare s.gens
  base : Un X.fs X.ex X.H₀ H X.s₀.heap s.heap
  loc : ∃ m, s.heap.Ns X.env.locals m ∧ ∀ (i : Nat) (x : Str) (v : V), X.N[i]? = some x → σ[i]? = some (some v) → Vis X.env.scope x → ∃ u, RelV v u ∧ Look X.env s.heap m x u
  cell : ∀ x c, X.env.cells.lookup x = some c → ∃ v, s.heap.IsCell c v
  free : H X.env.locals = none
  freeC : ∀ x c, X.env.cells.lookup x = some c → H c = none
  pin : ∀ p ∈ X.pn ++ pins, s.heap.get? p.1 = some p.2 ∧ H p.1 = none ∧ p.1 ≠ X.env.locals ∧ p.1 ∉ X.fs ∧ ∀ v, p.2.data ≠ .cell v
  hok : HOk X.prog X.w H s.heap
  len : σ.length = X.N.length
section
variable {X : Cx} {pins : List (Addr × Obj)} {σ : List (Option V)} {H H' : Hp} {s : Shared} {h' : Heap}
theorem Cx.Ok.nofr (ok : X.Ok) {b : Addr} {o : Obj} (e : X.base.get? b = some o) : b ∉ X.fs := fun hb => by
  have := (ok.funs.mem hb).1
  rw [e] at this; cases this
theorem Inv.bs (I : Inv X pins σ H s) : ∀ b o, X.base.get? b = some o → s.heap.get? b = some o ∧ H b = none := fun b o e =>
  ⟨I.base.keep b o (I.ok.bs b o e).1 (I.ok.bs b o e).2 (I.ok.nofr e) (I.ok.noex b o e), I.base.free b o (I.ok.bs b o e).1 (I.ok.bs b o e).2 (I.ok.noex b o e)⟩
theorem Inv.bk (I : Inv X pins σ H s) : ∀ b o, X.base.get? b = some o → s.heap.get? b = some o := fun b o e => (I.bs b o e).1
theorem Inv.mod (I : Inv X pins σ H s) : Mod X.K X.mg X.base := I.ok.mod
theorem Inv.kIn (I : Inv X pins σ H s) : X.K.In s.heap := I.ok.mod.kin.keeps I.bk
theorem Inv.nolimit (I : Inv X pins σ H s) : s.heap.NoLimit := I.ok.mod.nolimit.keeps I.bk
theorem Inv.fr (I : Inv X pins σ H s) : ∃ m, Fr X.base X.env.locals s.heap m :=
  let ⟨m, hn, _⟩ := I.loc
  ⟨m, hn, I.bk, Nat.le_trans I.ok.bsz I.ok.above⟩
theorem Inv.lt (I : Inv X pins σ H s) : X.env.locals < s.heap.objs.size := let ⟨_, hn, _⟩ := I.loc; hn.lt
theorem Inv.sz (I : Inv X pins σ H s) : X.s₀.heap.objs.size ≤ s.heap.objs.size := Nat.le_trans I.ok.above (Nat.le_of_lt I.lt)
theorem Inv.nofs (I : Inv X pins σ H s) {a : Addr} (h : s.heap.objs.size ≤ a) : a ∉ X.fs := fun hb => by
  obtain ⟨_, o, ho, _⟩ := I.ok.funs.mem hb
  exact absurd (Nat.lt_of_lt_of_le (Heap.lt_size ho) (Nat.le_trans I.sz h)) (Nat.lt_irrefl _)
theorem Inv.cne (I : Inv X pins σ H s) : ∀ x c, X.env.cells.lookup x = some c → c ≠ X.env.locals := fun x c e z => by
  obtain ⟨v, o, ho, hd⟩ := I.cell x c e
  obtain ⟨m, ⟨o', es, ep, ho', hd', _⟩, _⟩ := I.loc
  rw [z, ho'] at ho; cases ho; rw [hd'] at hd; cases hd
theorem Inv.funs (I : Inv X pins σ H s) : s.heap.FunFrames X.base X.outer := by
  have all : ∀ (l : List Env), (∀ b ∈ frs l, b ∈ X.fs) → X.s₀.heap.FunFrames X.base l → s.heap.FunFrames X.base l := by
    intro l
    induction l with
    | nil => intro _ _; trivial
    | cons env r ih =>
      intro hs hl
      obtain ⟨hk, ⟨L, o, hf, hn, ho, hd⟩, hr⟩ := hl
      have hL : L ∈ X.fs := hs L (by unfold frs; rw [List.filterMap_cons, hf]; exact List.mem_cons_self)
      obtain ⟨sl, e⟩ := I.base.slot L o ho (I.ok.frf L hL) hL fun z => I.ok.exfs L z hL
      exact ⟨hk, ⟨L, _, hf, hn, e, hd⟩, ih (fun b hb => hs b (by unfold frs; rw [List.filterMap_cons, hf]; exact List.mem_cons_of_mem _ hb)) hr⟩
  exact all X.outer (fun _ hb => hb) I.ok.funs
theorem Inv.stack (I : Inv X pins σ H s) : s.heap.FunFrames X.base X.stack := by
  rcases I.ok.stk with e | ⟨e, hf⟩
  · rw [e]; exact I.funs
  · rw [e]
    obtain ⟨m, hn, _⟩ := I.loc
    refine .cons (by rw [I.ok.kind]; decide) hf hn ?_ I.funs
    exact Heap.get?_none_of_le (Nat.le_trans I.ok.bsz I.ok.above)
theorem Inv.stkSub (I : Inv X pins σ H s) : ∀ b ∈ frs X.stack, b ∈ X.env.locals :: X.fs := fun b hb => by
  rcases I.ok.stk with e | ⟨e, hf⟩
  · rw [e] at hb; exact List.mem_cons_of_mem _ hb
  · rw [e] at hb
    unfold frs at hb
    rw [List.filterMap_cons, hf] at hb
    exact hb
theorem Inv.stkFree (I : Inv X pins σ H s) : ∀ b ∈ frs X.stack, H b = none := fun b hb => by
  rcases List.mem_cons.mp (I.stkSub b hb) with e | hb
  · rw [e]; exact I.free
  · obtain ⟨_, o, ho, _⟩ := I.ok.funs.mem hb
    exact I.base.free b o ho (I.ok.frf b hb) fun z => I.ok.exfs b z hb
theorem Inv.step {g' : Array GenState} {t' : Nat} {d' : Drawn} {ch : List Addr} (I : Inv X pins σ H s)
    (hch : ∀ b ∈ ch, (b ∈ X.ex ∨ X.s₀.heap.objs.size ≤ b) ∧ b ≠ X.env.locals ∧ (∀ x c, X.env.cells.lookup x = some c → c ≠ b) ∧ ∀ p ∈ X.pn ++ pins, p.1 ≠ b)
    (keep : ∀ b o, b ≠ X.env.locals → b ∉ X.fs → b ∉ ch → s.heap.get? b = some o → H b = none → h'.get? b = some o)
    (slot : ∀ b o, b ≠ X.env.locals → b ∈ X.fs → b ∉ ch → s.heap.get? b = some o → H b = none → ∃ sl, h'.get? b = some { o with slots := sl }) (free : ∀ b o, b ∉ ch → s.heap.get? b = some o → H b = none → H' b = none)
    (there : ∀ b o, b ∉ ch → s.heap.get? b = some o → ∃ o', h'.get? b = some o')
    (tups : ∀ b xs, H b = some (.tup xs) → H' b = some (.tup xs)) (frzs : ∀ b o u, H b = some (.frz o u) → H' b = some (.frz o u)) (tbls : ∀ b ps, H b = some (.tbl ps) → ∃ more, H' b = some (.tbl (ps ++ more)))
    (ns : ∀ m, s.heap.Ns X.env.locals m → h'.Ns X.env.locals m) (hok : HOk X.prog X.w H' h') (hg : AllBare g') :
    Inv X pins σ H' { s with heap := h', gens := g', drawn := d', toks := t' } := by
  have neL : ∀ b o, X.s₀.heap.get? b = some o → b ≠ X.env.locals := fun b o e => Nat.ne_of_lt (Nat.lt_of_lt_of_le (Heap.lt_size e) I.ok.above)
  have neC : ∀ b o, X.s₀.heap.get? b = some o → b ∉ X.ex → b ∉ ch := fun b o e hx hb => by
    rcases (hch b hb).1 with z | z
    · exact hx z
    · exact absurd (Nat.lt_of_lt_of_le (Heap.lt_size e) z) (Nat.lt_irrefl _)
  have cellK : ∀ x c, X.env.cells.lookup x = some c → ∀ v, s.heap.IsCell c v → h'.IsCell c v := fun x c e v ⟨o, ho, hd⟩ => by
    have nch : c ∉ ch := fun z => (hch c z).2.2.1 x c e rfl
    by_cases hc : c ∈ X.fs
    · obtain ⟨sl, q⟩ := slot c o (I.cne x c e) hc nch ho (I.freeC x c e)
      exact ⟨_, q, hd⟩
    · exact ⟨o, keep c o (I.cne x c e) hc nch ho (I.freeC x c e), hd⟩
  refine ⟨I.ok, I.os, hg, ⟨fun b o e n hb hx => ?_, fun b o e n hb hx => ?_, fun b o e n hx => ?_, fun b o e hx => ?_, fun b xs e => tups b xs (I.base.tups b xs e), fun b o xs e => frzs b o xs (I.base.frzs b o xs e), fun b ps e => ?_⟩, ?_, fun x c e => ?_, ?_, fun x c e => ?_, fun p hp => ?_, hok, I.len⟩
  · exact keep b o (neL b o e) hb (neC b o e hx) (I.base.keep b o e n hb hx) (I.base.free b o e n hx)
  · obtain ⟨sl, e1⟩ := I.base.slot b o e n hb hx
    obtain ⟨sl', e2⟩ := slot b _ (neL b o e) hb (neC b o e hx) e1 (I.base.free b o e n hx)
    exact ⟨sl', e2⟩
  · obtain ⟨o', e1⟩ := I.base.there b o e hx
    exact free b o' (neC b o e hx) e1 (I.base.free b o e n hx)
  · obtain ⟨o', e1⟩ := I.base.there b o e hx
    exact there b o' (neC b o e hx) e1
  · obtain ⟨m1, e1⟩ := I.base.tbls b ps e
    obtain ⟨m2, e2⟩ := tbls b _ e1
    exact ⟨m1 ++ m2, by rw [e2, Array.append_assoc]⟩
  · obtain ⟨m, hn, hl⟩ := I.loc
    refine ⟨m, ns m hn, fun i x v e1 e2 e3 => ?_⟩
    obtain ⟨u, r, l⟩ := hl i x v e1 e2 e3
    refine ⟨u, r, ?_⟩
    rcases l with l | ⟨k, c, e, z⟩
    · exact .inl l
    · exact .inr ⟨k, c, e, cellK x c e _ z⟩
  · obtain ⟨v, z⟩ := I.cell x c e
    exact ⟨v, cellK x c e v z⟩
  · obtain ⟨m, ⟨o, _, _, ho, _⟩, _⟩ := I.loc
    exact free _ o (fun z => (hch _ z).2.1 rfl) ho I.free
  · obtain ⟨v, o, ho, hd⟩ := I.cell x c e
    exact free c o (fun z => (hch c z).2.2.1 x c e rfl) ho (I.freeC x c e)
  · obtain ⟨e, n, ne, nf, d⟩ := I.pin p hp
    have nch : p.1 ∉ ch := fun z => (hch p.1 z).2.2.2 p hp rfl
    exact ⟨keep p.1 p.2 ne nf nch e n, free p.1 p.2 nch e n, ne, nf, d⟩
theorem Inv.un {t' : Nat} (I : Inv X pins σ H s) (u : Un X.fs [] H H' s.heap h') (hok : HOk X.prog X.w H' h') : Inv X pins σ H' { s with heap := h', toks := t' } := by
  obtain ⟨m, ⟨o, es, ep, ho, r⟩, _⟩ := id I.loc
  obtain ⟨sl, hL⟩ := u.any ho I.free (by simp)
  exact I.step (g' := s.gens) (d' := s.drawn) (ch := []) (fun _ z => nomatch z) (fun b o _ hb _ e n => u.keep b o e n hb (by simp)) (fun b o _ hb _ e n => u.slot b o e n hb (by simp)) (fun b o _ e n => u.free b o e n (by simp)) (fun b o _ e => u.there b o e (by simp)) u.tups u.frzs u.tbls (fun m' hm => by
    obtain ⟨o', es', ep', ho', r'⟩ := hm
    rw [ho] at ho'; cases ho'
    exact ⟨_, es', ep', hL, r'⟩) hok I.bare
theorem Inv.call {g' : Array GenState} {t' : Nat} {d' : Drawn} {ch : List Addr} (I : Inv X pins σ H s) (u : Un (frs X.stack) ch H H' s.heap h') (hok : HOk X.prog X.w H' h') (hg : AllBare g')
    (hch : ∀ b ∈ ch, (b ∈ X.ex ∨ X.s₀.heap.objs.size ≤ b) ∧ b ≠ X.env.locals ∧ (∀ x c, X.env.cells.lookup x = some c → c ≠ b) ∧ ∀ p ∈ X.pn ++ pins, p.1 ≠ b) :
    Inv X pins σ H' { s with heap := h', gens := g', drawn := d', toks := t' } := by
  obtain ⟨m, ⟨o, es, ep, ho, r⟩, _⟩ := id I.loc
  obtain ⟨sl, hL⟩ := u.any ho I.free fun z => (hch _ z).2.1 rfl
  exact I.step (ch := ch) hch (fun b o hL hb hc e n => u.keep b o e n (fun z => (List.mem_cons.mp (I.stkSub b z)).elim hL hb) hc) (fun b o _ _ hc e n => u.any e n hc) (fun b o hc e n => u.free b o e n hc) (fun b o hc e => u.there b o e hc) u.tups u.frzs u.tbls (fun m' hm => by
    obtain ⟨o', es', ep', ho', r'⟩ := hm
    rw [ho] at ho'; cases ho'
    exact ⟨_, es', ep', hL, r'⟩) hok hg
theorem Inv.turned {t' : Nat} {it : Addr} (I : Inv X pins σ H s) (k : ∀ b o, b ≠ it → s.heap.get? b = some o → h'.get? b = some o) (hn : H it = none) (hL : it ≠ X.env.locals)
    (h1 : it ∈ X.ex ∨ X.s₀.heap.objs.size ≤ it) (h2 : ∀ x c, X.env.cells.lookup x = some c → c ≠ it) (h3 : ∀ p ∈ X.pn ++ pins, p.1 ≠ it) : Inv X pins σ H { s with heap := h', toks := t' } := by
  have nit : ∀ b u, H b = some u → b ≠ it := fun b u e z => by rw [z, hn] at e; cases e
  refine I.step (g' := s.gens) (d' := s.drawn) (ch := [it]) (fun b hb => ?_) (fun b o _ _ hc e _ => k b o (fun z => hc (by simp [z])) e) (fun b o _ _ hc e _ => ⟨o.slots, k b o (fun z => hc (by simp [z])) e⟩) (fun _ _ _ _ n => n)
    (fun b o hc e => ⟨o, k b o (fun z => hc (by simp [z])) e⟩) (fun _ _ e => e) (fun _ _ _ e => e) (fun b ps e => ⟨#[], by rw [e]; simp⟩) (fun m hm => ?_) (fun b u e => ?_) I.bare
  · have e : b = it := by simpa using hb
    subst e
    exact ⟨h1, hL, h2, h3⟩
  · obtain ⟨o, es, ep, ho, r⟩ := hm
    exact ⟨o, es, ep, k _ o (Ne.symm hL) ho, r⟩
  · refine (I.hok b u e).stay (fun c v hc q => k c v ?_ q) (fun _ q => q) fun _ _ q => q
    rcases hc with z | z
    · rw [z]; exact nit b u e
    · exact nit c _ z
theorem Inv.tok (I : Inv X pins σ H s) (t : Nat) : Inv X pins σ H { s with toks := t } := I.un (h' := s.heap) (t' := t) Un.refl I.hok
theorem Inv.kept {t' : Nat} (I : Inv X pins σ H s) (k : ∀ b u, s.heap.get? b = some u → h'.get? b = some u) : Inv X pins σ H { s with heap := h', toks := t' } := I.un (Un.kept k) (I.hok.kept k)
theorem Inv.laid {a : Addr} {o : HO} {t' : Nat} (I : Inv X pins σ H s) (k : ∀ b u, s.heap.get? b = some u → h'.get? b = some u) (hp : s.heap.objs.size ≤ a) (new : ObjOk X.prog X.w (upd H a o) h' a o) :
    Inv X pins σ (upd H a o) { s with heap := h', toks := t' } := I.un (Un.laid k hp (I.hok.fresh hp)) (I.hok.laid k hp new)
theorem Inv.write {x e : Addr} {o : HO} {t' : Nat} (I : Inv X pins σ H s) (mu : Mut (H x)) (he : e = x ∨ H e = some (.own x)) (k : ∀ b u, b ≠ e → s.heap.get? b = some u → h'.get? b = some u) (heo : ∃ u, h'.get? e = some u)
    (new : ObjOk X.prog X.w (upd H x o) h' x o) : Inv X pins σ (upd H x o) { s with heap := h', toks := t' } := I.un (Un.write mu he k heo) (I.hok.write mu he k heo new)
theorem Inv.pins_of {pins' : List (Addr × Obj)} (I : Inv X pins σ H s) (h : ∀ p ∈ pins', s.heap.get? p.1 = some p.2 ∧ H p.1 = none ∧ p.1 ≠ X.env.locals ∧ p.1 ∉ X.fs ∧ ∀ v, p.2.data ≠ .cell v) : Inv X pins' σ H s :=
  ⟨I.ok, I.os, I.bare, I.base, I.loc, I.cell, I.free, I.freeC, fun p hp => (List.mem_append.mp hp).elim (fun z => I.pin p (List.mem_append_left _ z)) (h p), I.hok, I.len⟩
theorem nodup_ix {N : List Str} (hN : N.Nodup) {i j : Nat} {x : Str} (a : N[i]? = some x) (b : N[j]? = some x) : i = j := by
  obtain ⟨h1, e1⟩ := List.getElem?_eq_some_iff.mp a
  obtain ⟨h2, e2⟩ := List.getElem?_eq_some_iff.mp b
  exact (List.getElem_inj hN).mp (e1.trans e2.symm)
theorem store_ok2 {M : Model} {A : Around} {E : Value → Shared → Prop} {i : Nat} {x : Str} {v : V} {u : Value} {Q : Unit → Shared → Prop} (I : Inv X pins σ H s) (hN : X.N.Nodup) (hi : X.N[i]? = some x) (hx : Loc X.env.scope x) (r : RelV v u)
    (h : ∀ s', Inv X pins (σ.set i (some v)) H s' → (∃ a, Heap.SameBut a s.heap s'.heap ∧ (a = X.env.locals ∨ X.env.cells.lookup x = some a)) → Q () s') (hf : X.fn x = true ∨ X.env.scope.names.lookup x = some .local := by first | exact .inl rfl | exact .inr rfl | assumption) : wpAny M A (storeName X.env x u) Q E s := by
  obtain ⟨m, hn, hl⟩ := id I.loc
  have hcls : (X.env.scope.kind == .class || (X.env.scope.kind == .module && X.env.locals != X.env.globals)) = false := by rw [I.ok.kind]; rfl
  have hiσ : i < σ.length := by rw [I.len]; exact (List.getElem?_eq_some_iff.mp hi).1
  have cne := I.cne
  have tracked : ∀ {a : Addr} {h' : Heap}, (∃ o, s.heap.get? a = some o ∧ H a = none) → Heap.SameBut a s.heap h' → HOk X.prog X.w H h' := fun {a h'} ha hs b ob e => by
    obtain ⟨_, _, hfree⟩ := ha
    refine (I.hok b ob e).stay (fun c w' hc q => (hs.2 c ?_).trans q) (fun _ q => q) fun _ _ q => q
    rintro rfl
    rcases hc with rfl | hc
    · rw [hfree] at e; cases e
    · rw [hfree] at hc; cases hc
  rcases hx with hk | hk
  · refine wpAny_storeName_local hk hn (fun h' hn' hs => ?_) hcls
    obtain ⟨oL, _, _, hoL, _⟩ := id hn
    refine h _ ⟨I.ok, I.os, I.bare, ⟨fun b o e n hb hx => ?_, fun b o e n hb hx => ?_, I.base.free, fun b o e hx => ?_, I.base.tups, I.base.frzs, I.base.tbls⟩, ⟨_, hn', fun j y v' e1 e2 e3 => ?_⟩, fun y c e => ?_, I.free, I.freeC, fun p hp => ?_, tracked ⟨oL, hoL, I.free⟩ hs, by simpa using I.len⟩ ⟨_, hs, .inl rfl⟩
    · exact (hs.2 b (Nat.ne_of_lt (Nat.lt_of_lt_of_le (Heap.lt_size e) I.ok.above))).trans (I.base.keep b o e n hb hx)
    · obtain ⟨sl, e1⟩ := I.base.slot b o e n hb hx
      exact ⟨sl, (hs.2 b (Nat.ne_of_lt (Nat.lt_of_lt_of_le (Heap.lt_size e) I.ok.above))).trans e1⟩
    · obtain ⟨o', e1⟩ := I.base.there b o e hx
      exact ⟨o', (hs.2 b (Nat.ne_of_lt (Nat.lt_of_lt_of_le (Heap.lt_size e) I.ok.above))).trans e1⟩
    · by_cases hj : j = i
      · subst hj
        rw [hi] at e1; cases e1
        rw [List.getElem?_set_self hiσ] at e2
        cases e2
        exact ⟨u, r, .inl ⟨hk, by simp⟩⟩
      · rw [List.getElem?_set_ne (Ne.symm hj)] at e2
        obtain ⟨u', r', q⟩ := hl j y v' e1 e2 e3
        refine ⟨u', r', ?_⟩
        rcases q with ⟨k, e⟩ | ⟨k, c, e, z⟩
        · refine .inl ⟨k, ?_⟩
          have : y ≠ x := fun e => hj (nodup_ix hN e1 (e ▸ hi))
          simp [this, e]
        · exact .inr ⟨k, c, e, z.sameBut hs (cne y c e)⟩
    · obtain ⟨w', z⟩ := I.cell y c e
      exact ⟨w', z.sameBut hs (cne y c e)⟩
    · obtain ⟨e, n, ne, nf, d⟩ := I.pin p hp
      exact ⟨(hs.2 p.1 ne).trans e, n, ne, nf, d⟩
  · have hfn : X.fn x = true := by
      rcases hf with z | z
      · exact z
      · rw [z] at hk; cases hk
    obtain ⟨c, hc⟩ := I.ok.has x (.inl hk)
    obtain ⟨w', z⟩ := I.cell x c hc
    refine wpAny_storeName_cell I.ok.kind hk hc z (fun h' hc' hs => ?_)
    obtain ⟨oc, hoc, hocd⟩ := id z
    refine h { s with heap := h' } ⟨I.ok, I.os, I.bare, ⟨fun b o e n hb hx => ?_, fun b o e n hb hx => ?_, I.base.free, fun b o e hx => ?_, I.base.tups, I.base.frzs, I.base.tbls⟩, ⟨m, hn.sameBut hs (Ne.symm (cne x c hc)), fun j y v' e1 e2 e3 => ?_⟩, fun y c' e => ?_, I.free, I.freeC, fun p hp => ?_, tracked ⟨oc, hoc, I.freeC x c hc⟩ hs, by simpa using I.len⟩ ⟨c, hs, .inr hc⟩
    · exact (hs.2 b (Nat.ne_of_lt (Nat.lt_of_lt_of_le (Heap.lt_size e) (I.ok.cab x c hfn hc)))).trans (I.base.keep b o e n hb hx)
    · obtain ⟨sl, e1⟩ := I.base.slot b o e n hb hx
      exact ⟨sl, (hs.2 b (Nat.ne_of_lt (Nat.lt_of_lt_of_le (Heap.lt_size e) (I.ok.cab x c hfn hc)))).trans e1⟩
    · obtain ⟨o', e1⟩ := I.base.there b o e hx
      exact ⟨o', (hs.2 b (Nat.ne_of_lt (Nat.lt_of_lt_of_le (Heap.lt_size e) (I.ok.cab x c hfn hc)))).trans e1⟩
    · by_cases hj : j = i
      · subst hj
        rw [hi] at e1; cases e1
        rw [List.getElem?_set_self hiσ] at e2
        cases e2
        exact ⟨u, r, .inr ⟨.inl hk, c, hc, hc'⟩⟩
      · rw [List.getElem?_set_ne (Ne.symm hj)] at e2
        obtain ⟨u', r', q⟩ := hl j y v' e1 e2 e3
        refine ⟨u', r', ?_⟩
        rcases q with q | ⟨k, c', e, z'⟩
        · exact .inl q
        · refine .inr ⟨k, c', e, z'.sameBut hs ?_⟩
          rintro rfl
          exact hj (nodup_ix hN e1 (I.ok.inj _ _ _ e hc ▸ hi))
    · by_cases hcc : c' = c
      · subst hcc; exact ⟨_, hc'⟩
      · obtain ⟨w2, z2⟩ := I.cell y c' e
        exact ⟨w2, z2.sameBut hs hcc⟩
    · obtain ⟨e, n, ne, nf, d⟩ := I.pin p hp
      refine ⟨(hs.2 p.1 ?_).trans e, n, ne, nf, d⟩
      intro q
      rw [q, hoc] at e
      have q' : oc = p.2 := Option.some.inj e
      exact d w' (by rw [← q']; exact hocd)
theorem store_ok {M : Model} {A : Around} {E : Value → Shared → Prop} {i : Nat} {x : Str} {v : V} {u : Value} {Q : Unit → Shared → Prop} (I : Inv X pins σ H s) (hN : X.N.Nodup) (hi : X.N[i]? = some x) (hx : Loc X.env.scope x) (r : RelV v u)
    (h : ∀ s', Inv X pins (σ.set i (some v)) H s' → Q () s') (hf : X.fn x = true ∨ X.env.scope.names.lookup x = some .local := by first | exact .inl rfl | exact .inr rfl | assumption) : wpAny M A (storeName X.env x u) Q E s :=
  store_ok2 I hN hi hx r (fun s' I' _ => h s' I') hf
theorem Inv.call' {s' : Shared} {ch : List Addr} (I : Inv X pins σ H s) (ho : s'.os = s.os) (u : Un (frs X.stack) ch H H' s.heap s'.heap) (hok : HOk X.prog X.w H' s'.heap) (hg : AllBare s'.gens)
    (hch : ∀ b ∈ ch, (b ∈ X.ex ∨ X.s₀.heap.objs.size ≤ b) ∧ b ≠ X.env.locals ∧ (∀ x c, X.env.cells.lookup x = some c → c ≠ b) ∧ ∀ p ∈ X.pn ++ pins, p.1 ≠ b) : Inv X pins σ H' s' := by
  obtain ⟨h', g', d', t', o'⟩ := s'
  have e : o' = s.os := ho
  subst e
  exact I.call (g' := g') (t' := t') (d' := d') u hok hg hch
end
noncomputable abbrev XK := Value → Option Addr → Hp → Prop
noncomputable abbrev St := List (Option V)
noncomputable abbrev VK := V → Hp → Prop
noncomputable abbrev TE := St → Hp → VK → Prop
noncomputable abbrev TT := St → Hp → (Bool → Hp → Prop) → Prop
noncomputable abbrev TA := St → Hp → (List V → Hp → Prop) → Prop
structure Ends where
  nx : St → Hp → Prop
  rt : VK
  bk : St → Hp → Prop := fun _ _ => False
  ct : St → Hp → Prop := fun _ _ => False
noncomputable abbrev TS := Ends → St → Hp → Prop
noncomputable def EP (X : Cx) (pins : List (Addr × Obj)) (σ : St) (Q : VK) (u : Value) (s' : Shared) : Prop := ∃ v H', Inv X pins σ H' s' ∧ RelV v u ∧ Q v H'
noncomputable def TP (X : Cx) (pins : List (Addr × Obj)) (σ : St) (Q : Bool → Hp → Prop) (b : Bool) (s' : Shared) : Prop := ∃ H', Inv X pins σ H' s' ∧ Q b H'
noncomputable def AP (X : Cx) (pins : List (Addr × Obj)) (σ : St) (Q : List V → Hp → Prop) (us : List Value) (s' : Shared) : Prop := ∃ vs H', Inv X pins σ H' s' ∧ Vals vs us ∧ Q vs H'
noncomputable def SP (X : Cx) (pins : List (Addr × Obj)) (D : Ends) (f : Flow) (s' : Shared) : Prop :=
  match f with
  | .next => ∃ σ' H', Inv X pins σ' H' s' ∧ D.nx σ' H'
  | .brk => ∃ σ' H', Inv X pins σ' H' s' ∧ D.bk σ' H'
  | .cont => ∃ σ' H', Inv X pins σ' H' s' ∧ D.ct σ' H'
  | .ret u => ∃ v σ' H', Inv X pins σ' H' s' ∧ RelV v u ∧ D.rt v H'
noncomputable def PE (X : Cx) (e : Expr) (t : TE) : Prop :=
  ∀ (pins : List (Addr × Obj)) (s : Shared) (σ : St) (H : Hp) (Q : VK), Inv X pins σ H s → t σ H Q → wpAny (model X.prog X.w) X.A (eval e X.env) (EP X pins σ Q) X.xe s
noncomputable def PT (X : Cx) (e : Expr) (t : TT) : Prop :=
  ∀ (pins : List (Addr × Obj)) (s : Shared) (σ : St) (H : Hp) (Q : Bool → Hp → Prop), Inv X pins σ H s → t σ H Q → wpAny (model X.prog X.w) X.A (isTrue e X.env (eval e X.env)) (TP X pins σ Q) X.xe s
noncomputable def PW (X : Cx) (e : Expr) (t : TT) : Prop :=
  ∀ (whole : Sem Value) (pins : List (Addr × Obj)) (s : Shared) (σ : St) (H : Hp) (Q : Bool → Hp → Prop), Inv X pins σ H s → t σ H Q → wpAny (model X.prog X.w) X.A (isTrue e X.env whole) (TP X pins σ Q) X.xe s
theorem PW.pt {X : Cx} {e : Expr} {t : TT} (h : PW X e t) : PT X e t := h _
noncomputable def PA (X : Cx) (es : List Expr) (t : TA) : Prop :=
  ∀ (pos : Pos) (pins : List (Addr × Obj)) (s : Shared) (σ : St) (H : Hp) (Q : List V → Hp → Prop), Inv X pins σ H s → t σ H Q → wpAny (model X.prog X.w) X.A (spliced (backTo pos (starEach es X.env))) (AP X pins σ Q) X.xe s
noncomputable def PS (X : Cx) (st : Stmt) (t : TS) : Prop :=
  ∀ (pins : List (Addr × Obj)) (s : Shared) (σ : St) (H : Hp) (D : Ends), Inv X pins σ H s → t D σ H → wpAny (model X.prog X.w) X.A (exec st X.env) (SP X pins D) X.xe s
noncomputable def PSs (X : Cx) (st : List Stmt) (t : TS) : Prop :=
  ∀ (pins : List (Addr × Obj)) (s : Shared) (σ : St) (H : Hp) (D : Ends), Inv X pins σ H s → t D σ H → wpAny (model X.prog X.w) X.A (execs st X.env) (SP X pins D) X.xe s
theorem thn {α : Type} {t : Sem α} {Q Q' : α → Shared → Prop} {M : Model} {A : Around} {E : Value → Shared → Prop} {s : Shared} (h : wpAny M A t Q E s) (hQ : ∀ a s, Q a s → Q' a s) : wpAny M A t Q' E s := wpAny_mono h hQ fun _ _ x => x
end L2
namespace L2
open PySem PySem.Spec PyProof.Rows
section
variable {X : Cx}
theorem bin {a b : Expr} {ta tb : TE} (ha : PE X a ta) (hb : PE X b tb) {pins : List (Addr × Obj)} {s : Shared} {σ : St} {H : Hp} {R : V → V → Hp → Prop} (I : Inv X pins σ H s) (h : ta σ H fun x H1 => tb σ H1 fun y H2 => R x y H2)
    {α : Type} {Q : α → Shared → Prop} {f : Value → Value → Sem α}
    (hf : ∀ v u s2 x y H2, Inv X pins σ H2 s2 → RelV x v → RelV y u → R x y H2 → wpAny (model X.prog X.w) X.A (f v u) Q X.xe s2) :
    wpAny (model X.prog X.w) X.A (eval a X.env) (fun v s₁ => wpAny (model X.prog X.w) X.A (eval b X.env) (fun u s₂ => wpAny (model X.prog X.w) X.A (f v u) Q X.xe s₂) X.xe s₁) X.xe s := by
  refine thn (ha pins s σ H _ I h) fun v s1 ⟨x, H1, I1, r1, q1⟩ => ?_
  refine thn (hb pins s1 σ H1 _ I1 q1) fun u s2 ⟨y, H2, I2, r2, q2⟩ => ?_
  exact hf v u s2 x y H2 I2 r1 r2 q2
noncomputable def tVar (i : Nat) : TE := fun σ H Q => ∃ v, σ[i]? = some (some v) ∧ Q v H
noncomputable def tC (v : V) : TE := fun _ H Q => Q v H
theorem pe_var {i : Nat} {x : Str} {pos : Pos} (hN : X.N[i]? = some x) (hv : Vis X.env.scope x) (hd : (x == ("__debug__" : Str)) = false := by decide) (hcd : (x == ("__classdict__" : Str)) = false := by decide) : PE X (.Name x pos) (tVar i) := by
  intro pins s σ H Q I h
  obtain ⟨v, e, h⟩ := h
  obtain ⟨m, hn, hl⟩ := I.loc
  obtain ⟨u, r, l⟩ := hl i x v hN e hv
  have fin : EP X pins σ Q u s := ⟨v, H, I, r, h⟩
  rcases l with ⟨hk, hm⟩ | ⟨hk, c, hc, hcell⟩
  · exact wpAny_Name (wpAny_loadName_local I.ok.kind hk hn hm fin) hd
  · rcases hk with hk | hk
    · exact wpAny_Name (wpAny_loadName_cell I.ok.kind hk hc hcell fin) hd
    · exact wpAny_Name (wpAny_loadName_free I.ok.kind hk hc hcell fin hcd) hd
theorem pe_int {i j pos} : PE X (.Constant (.int i) j pos) (tC (.int i)) := fun _ _ _ H _ I h => wpAny_Constant_int ⟨.int i, H, I.tok _, ⟨_, rfl⟩, h⟩
theorem pe_bl {b j pos} : PE X (.Constant (.bool b) j pos) (tC (.bl b)) := fun _ _ _ H _ I h => Constant_bool ⟨.bl b, H, I, rfl, h⟩
theorem pe_str {x j pos} : PE X (.Constant (.str x) j pos) (tC (.str x)) := fun _ _ _ H _ I h => Calls.Constant_str ⟨.str x, H, I.tok _, ⟨_, rfl⟩, h⟩
noncomputable def Gl (X : Cx) (x : Str) : Prop := X.env.kindOf x = some .globalImplicit
theorem ld_glob {E : Value → Shared → Prop} {pins : List (Addr × Obj)} {s : Shared} {σ : St} {H : Hp} {x : Str} {u : Value} {pos : Pos} {Q : Value → Shared → Prop} (I : Inv X pins σ H s) (hg : Gl X x) (hm : X.mg x = some u) (h : Q u s)
    (hd : (x == ("__debug__" : Str)) = false := by decide) : wpAny (model X.prog X.w) X.A (eval (.Name x pos) X.env) Q E s :=
  Calls.Name_function_global I.ok.kind hg (Calls.loadGlobal_global (by rw [I.ok.glob]; exact I.mod.glob.keeps I.bk) hm h) hd
theorem ld_blt {E : Value → Shared → Prop} {pins : List (Addr × Obj)} {s : Shared} {σ : St} {H : Hp} {x : Str} {u : Value} {pos : Pos} {Q : Value → Shared → Prop} (I : Inv X pins σ H s) (hg : Gl X x) (hm : X.mg x = none) (hv : bootBuiltins x = some u) (h : Q u s)
    (hn : x ≠ "__name__" := by decide) (hd : (x == ("__debug__" : Str)) = false := by decide) : wpAny (model X.prog X.w) X.A (eval (.Name x pos) X.env) Q E s := by
  obtain ⟨mb, h1, h2⟩ := I.mod.blt
  exact Calls.Name_function_global I.ok.kind hg (Calls.loadGlobal_builtin (by rw [I.ok.glob]; exact I.mod.glob.keeps I.bk) hm (by rw [I.ok.blt]; exact h1.keeps I.bk) ((h2 x hn).trans hv) h) hd
theorem pe_glob {x : Str} {v : V} {u : Value} {pos : Pos} (hg : Gl X x) (hm : X.mg x = some u) (r : RelV v u) (hd : (x == ("__debug__" : Str)) = false := by decide) : PE X (.Name x pos) (tC v) :=
  fun _ _ _ H _ I h => ld_glob I hg hm ⟨v, H, I, r, h⟩ hd
variable {a b : Expr} {ta tb : TE} {pos : Pos}
noncomputable def tB (t : TE) : TT := fun σ H Q => t σ H fun x H1 => ∃ c, x = .bl c ∧ Q c H1
theorem pt_val {e : Expr} {t : TE} (h : PE X e t) (he : ∀ whole, isTrue e X.env whole = (do let v ← whole; standAt e.pos; holding [v] (truthy v)) := by intro _; rfl) : PT X e (tB t) := by
  intro pins s σ H Q I hw
  refine isTrue_plain (thn (h pins s σ H _ I hw) fun v s1 ⟨x, H1, I1, r1, q1⟩ => ?_) (he _)
  obtain ⟨d, rfl, q⟩ := q1
  cases r1
  exact wpAny_truthy_bool ⟨H1, I1, q⟩
variable {tA tB' : TT} {rest : List Expr}
noncomputable def tOr (t u : TT) : TT := fun σ H Q => t σ H fun c H1 => if c = true then Q true H1 else u σ H1 Q
noncomputable def tNot (t : TT) : TT := fun σ H Q => t σ H fun c H1 => Q (!c) H1
theorem pw_or1 (ha : PT X a tA) : PW X (.BoolOp .Or [a] pos) tA := by
  intro wh pins s σ H Q I h
  refine isTrue_or (thn (ha pins s σ H Q I h) fun c s1 e => ?_)
  cases c with
  | false => exact isTrue_or_nil e
  | true => exact e
theorem pw_or (ha : PT X a tA) (hb : PW X (.BoolOp .Or (b :: rest) pos) tB') : PW X (.BoolOp .Or (a :: b :: rest) pos) (tOr tA tB') := by
  intro wh pins s σ H Q I h
  refine isTrue_or (thn (ha pins s σ H _ I h) fun c s1 ⟨H1, I1, q1⟩ => ?_)
  cases c with
  | true => exact ⟨H1, I1, q1⟩
  | false => exact hb wh pins s1 σ H1 Q I1 q1
theorem pt_not (ha : PT X a tA) : PT X (.UnaryOp .Not a pos) (tNot tA) := by
  intro pins s σ H Q I h
  exact isTrue_not (ha pins s σ H (fun c H1 => Q (!c) H1) I h)
noncomputable def tAndV (ta tb : TE) : TE := fun σ H Q => ta σ H fun x H1 => ∃ c, x = .bl c ∧ if c = true then tb σ H1 Q else Q (.bl false) H1
theorem pe_one {op} {t : TE} (h : PE X a t) : PE X (.BoolOp op [a] pos) t := fun pins s σ H Q I hw => BoolOp_one (h pins s σ H Q I hw)
theorem pe_and (ha : PE X a ta) (hb : PE X (.BoolOp .And (b :: rest) pos) tb) : PE X (.BoolOp .And (a :: b :: rest) pos) (tAndV ta tb) := by
  intro pins s σ H Q I h
  refine BoolOp_and (thn (ha pins s σ H _ I h) fun v s1 ⟨x, H1, I1, r1, q1⟩ => ?_)
  obtain ⟨c, rfl, q1⟩ := q1
  cases r1
  refine wpAny_truthy_bool ?_
  cases c with
  | true => exact hb pins s1 σ H1 Q I1 q1
  | false => exact ⟨.bl false, H1, I1, rfl, q1⟩
noncomputable def tIf (t : TT) (ta tb : TE) : TE := fun σ H Q => t σ H fun c H1 => if c = true then ta σ H1 Q else tb σ H1 Q
theorem pe_ifExp {c : Expr} (hc : PT X c tA) (ha : PE X a ta) (hb : PE X b tb) : PE X (.IfExp c a b pos) (tIf tA ta tb) := by
  intro pins s σ H Q I h
  refine wpAny_IfExp (thn (hc pins s σ H _ I h) fun d s1 ⟨H1, I1, q1⟩ => ?_)
  cases d with
  | true => exact ha pins s1 σ H1 Q I1 q1
  | false => exact hb pins s1 σ H1 Q I1 q1
end
end L2
namespace L2
open PySem PySem.Spec PyProof.Rows
noncomputable def SqL (K : PySem.W.Frag) (H : Hp) (a : Addr) (xs : List V) : Prop :=
  Rd H a (.lst xs) ∨
    ∃ (o : Obj) (its : Array Value) (n : Nat), K.lookup a = some o ∧ o.cls = .type "list" ∧ o.dict = none ∧ o.data = .seq its n ∧ its.size ≤ sizeLine ∧ Vals xs its.toList
noncomputable def SqT (K : PySem.W.Frag) (H : Hp) (a : Addr) (xs : List V) : Prop :=
  Rd H a (.tup xs) ∨
    ∃ (o : Obj) (its : Array Value) (n : Nat), K.lookup a = some o ∧ o.cls = .type "tuple" ∧ o.data = .seq its n ∧ its.size ≤ sizeLine ∧ Vals xs its.toList
noncomputable def absV : Value → Option V
  | .none => some .non
  | .bool b => some (.bl b)
  | .int i _ => some (.int i)
  | .str x _ => some (.str x)
  | .bytes b _ => some (.byt b)
  | .float b _ => some (.flt b)
  | .ref a => some (.ref a)
  | .type n => some (.ty n)
  | _ => none
theorem RelV.abs {x : V} {u : Value} (r : RelV x u) : absV u = some x := by
  cases x with
  | non => cases r; rfl
  | bl _ => cases r; rfl
  | int _ => obtain ⟨t, rfl⟩ := r; rfl
  | str _ => obtain ⟨t, rfl⟩ := r; rfl
  | byt _ => obtain ⟨t, rfl⟩ := r; rfl
  | flt _ => obtain ⟨t, rfl⟩ := r; rfl
  | ref _ => cases r; rfl
  | ty _ => cases r; rfl
theorem RelV.inj {x y : V} {u : Value} (r : RelV x u) (q : RelV y u) : x = y := Option.some.inj (r.abs.symm.trans q.abs)
theorem Vals.inj : ∀ {xs ys : List V} {us : List Value}, Vals xs us → Vals ys us → xs = ys
  | _, _, _, .nil, .nil => rfl
  | _, _, _, .cons r t, .cons r' t' => by rw [r.inj r', Vals.inj t t']
section
variable {X : Cx} {pins : List (Addr × Obj)} {σ : St} {H : Hp} {s : Shared} {a : Addr} {xs ys : List V}
theorem SqL.of {K : PySem.W.Frag} (h : H a = some (.lst xs)) : SqL K H a xs := .inl (.inl h)
theorem SqT.of {K : PySem.W.Frag} (h : H a = some (.tup xs)) : SqT K H a xs := .inl (.inl h)
theorem Inv.list (I : Inv X pins σ H s) (h : SqL X.K H a xs) : ∃ its : List Value, Vals xs its ∧ PlainL s.heap a its.toArray ∧ xs.length ≤ sizeLine := by
  rcases h with h | ⟨o, its, n, hk, hc, hd, hs, hz, r⟩
  · obtain ⟨z, its, n, r, e⟩ := h.ok I.hok
    exact ⟨its, r, ⟨_, n, e, rfl, rfl, rfl⟩, z⟩
  · refine ⟨its.toList, r, ⟨o, n, I.kIn a o hk, hc, hd, by simpa using hs⟩, ?_⟩
    have e := r.length
    simp only [Array.length_toList] at e
    lia
theorem Inv.tuple (I : Inv X pins σ H s) (h : SqT X.K H a xs) : ∃ its : List Value, Vals xs its ∧ IsTup s.heap a its.toArray ∧ xs.length ≤ sizeLine := by
  rcases h with h | ⟨o, its, n, hk, hc, hs, hz, r⟩
  · obtain ⟨z, its, r, p⟩ := h.ok I.hok
    exact ⟨its, r, p, z⟩
  · refine ⟨its.toList, r, ⟨o, I.kIn a o hk, hc, n, by simpa using hs⟩, ?_⟩
    have e := r.length
    simp only [Array.length_toList] at e
    lia
theorem Inv.list_inj (I : Inv X pins σ H s) (h : SqL X.K H a xs) (h' : SqL X.K H a ys) : xs = ys := by
  obtain ⟨its, r, ⟨o, n, e, _, _, d⟩, _⟩ := I.list h
  obtain ⟨its', r', ⟨o', n', e', _, _, d'⟩, _⟩ := I.list h'
  rw [e] at e'; cases e'
  rw [d] at d'
  injection d' with d1 _
  have : its = its' := by simpa using congrArg Array.toList d1
  subst this
  exact r.inj r'
theorem Inv.tuple_inj (I : Inv X pins σ H s) (h : SqT X.K H a xs) (h' : SqT X.K H a ys) : xs = ys := by
  obtain ⟨its, r, ⟨o, e, _, n, d⟩, _⟩ := I.tuple h
  obtain ⟨its', r', ⟨o', e', _, n', d'⟩, _⟩ := I.tuple h'
  rw [e] at e'; cases e'
  rw [d] at d'
  injection d' with d1 _
  have : its = its' := by simpa using congrArg Array.toList d1
  subst this
  exact r.inj r'
end
noncomputable abbrev Cx.wish (X : Cx) (E : Value → Shared → Prop) : Cx := { X with xe := E }
noncomputable abbrev Cx.nox (X : Cx) : Cx := X.wish fun _ _ => False
theorem Cx.Ok.wish {X : Cx} (ok : X.Ok) (E : Value → Shared → Prop) : (X.wish E).Ok :=
  ⟨ok.mod, ok.kind, ok.glob, ok.blt, ok.above, ok.inj, ok.has, ok.cab, ok.hd, ok.frames, ok.stk, ok.exf, ok.bs, ok.bsz, ok.noex, ok.exfs, ok.funs, ok.frf⟩
theorem Cx.Ok.unwish {X : Cx} {E : Value → Shared → Prop} (ok : (X.wish E).Ok) : X.Ok :=
  ⟨ok.mod, ok.kind, ok.glob, ok.blt, ok.above, ok.inj, ok.has, ok.cab, ok.hd, ok.frames, ok.stk, ok.exf, ok.bs, ok.bsz, ok.noex, ok.exfs, ok.funs, ok.frf⟩
section
variable {X : Cx} {pins : List (Addr × Obj)} {σ : St} {H : Hp} {s : Shared} {E : Value → Shared → Prop}
theorem Inv.wish (I : Inv X pins σ H s) (E : Value → Shared → Prop) : Inv (X.wish E) pins σ H s := ⟨I.ok.wish E, I.os, I.bare, I.base, I.loc, I.cell, I.free, I.freeC, I.pin, I.hok, I.len⟩
theorem Inv.unwish (I : Inv (X.wish E) pins σ H s) : Inv X pins σ H s := ⟨I.ok.unwish, I.os, I.bare, I.base, I.loc, I.cell, I.free, I.freeC, I.pin, I.hok, I.len⟩
theorem SP.unwish {D : Ends} {f : Flow} {s' : Shared} (h : SP (X.wish E) pins D f s') : SP X pins D f s' := by
  cases f with
  | next => obtain ⟨σ', H', I, q⟩ := h; exact ⟨σ', H', I.unwish, q⟩
  | brk => obtain ⟨σ', H', I, q⟩ := h; exact ⟨σ', H', I.unwish, q⟩
  | cont => obtain ⟨σ', H', I, q⟩ := h; exact ⟨σ', H', I.unwish, q⟩
  | ret u => obtain ⟨v, σ', H', I, r, q⟩ := h; exact ⟨v, σ', H', I.unwish, r, q⟩
theorem PE.nox {e : Expr} {t : TE} (h : PE X.nox e t) : PE X e t := fun pins s σ H Q I hw =>
  wpAny_mono (h pins s σ H Q (I.wish _) hw) (fun _ _ ⟨v, H', I', r, q⟩ => ⟨v, H', I'.unwish, r, q⟩) fun _ _ z => False.elim z
theorem PT.nox {e : Expr} {t : TT} (h : PT X.nox e t) : PT X e t := fun pins s σ H Q I hw =>
  wpAny_mono (h pins s σ H Q (I.wish _) hw) (fun _ _ ⟨H', I', q⟩ => ⟨H', I'.unwish, q⟩) fun _ _ z => False.elim z
theorem PSs.nox {st : List Stmt} {t : TS} (h : PSs X.nox st t) : PSs X st t := fun pins s σ H D I hw =>
  wpAny_mono (h pins s σ H D (I.wish _) hw) (fun _ _ q => q.unwish) fun _ _ z => False.elim z
end
section
variable {X : Cx} {st : Stmt} {rest : List Stmt} {t u : TS} {e : Expr} {te : TE} {pos : Pos}
noncomputable def tNext : TS := fun D σ H => D.nx σ H
noncomputable def tSeq (t u : TS) : TS := fun D σ H => t { D with nx := u D } σ H
theorem pss_nil : PSs X [] tNext := fun _ _ σ H _ I h => wpAny_execs_nil ⟨σ, H, I, h⟩
theorem pss_cons (h1 : PS X st t) (h2 : PSs X rest u) : PSs X (st :: rest) (tSeq t u) := by
  intro pins s σ H D I h
  refine wpAny_execs_cons (thn (h1 pins s σ H { D with nx := u D } I h) fun f s1 q => ?_)
  cases f with
  | next =>
    obtain ⟨σ', H', I', q⟩ := q
    exact h2 pins s1 σ' H' D I' q
  | ret v => exact q
  | brk => exact q
  | cont => exact q
theorem pss_one (h1 : PS X st t) : PSs X [st] t := by
  intro pins s σ H D I h
  refine wpAny_execs_cons (thn (h1 pins s σ H D I h) fun f s1 q => ?_)
  cases f with
  | next => exact wpAny_execs_nil q
  | ret v => exact q
  | brk => exact q
  | cont => exact q
theorem Inv.quiet {pins : List (Addr × Obj)} {σ : St} {H : Hp} {s : Shared} (I : Inv X pins σ H s) : interactive X.env = false := by simp [interactive, I.ok.kind]
noncomputable def tDrop (te : TE) : TS := fun D σ H => te σ H fun _ H1 => D.nx σ H1
theorem ps_expr (he : PE X e te) (hs : swapsWith e none pos.line X.env = pure false := by rfl) : PS X (.Expr e pos) (tDrop te) := by
  intro pins s σ H D I h
  exact wpAny_Expr_any (thn (he pins s σ H _ I h) fun v s1 ⟨x, H1, I1, r1, q1⟩ => ⟨σ, H1, I1, q1⟩) I.quiet hs
noncomputable def tRet (te : TE) : TS := fun D σ H => te σ H D.rt
theorem ps_ret (he : PE X e te) : PS X (.Return (some e) pos) (tRet te) := by
  intro pins s σ H D I h
  exact wpAny_Return_some (thn (he pins s σ H _ I h) fun v s1 ⟨x, H1, I1, r1, q1⟩ => ⟨x, σ, H1, I1, r1, q1⟩)
noncomputable def tIfS (c : TT) (t u : TS) : TS := fun D σ H => c σ H fun b H1 => if b = true then t D σ H1 else u D σ H1
theorem ps_if {c : Expr} {a b : List Stmt} {tc : TT} (hc : PT X c tc) (ha : PSs X a t) (hb : PSs X b u) : PS X (.If c a b pos) (tIfS tc t u) := by
  intro pins s σ H D I h
  refine wpAny_If (thn (hc pins s σ H _ I h) fun d s1 ⟨H1, I1, q1⟩ => ?_)
  cases d with
  | true => exact ha pins s1 σ H1 D I1 q1
  | false => exact hb pins s1 σ H1 D I1 q1
end
noncomputable abbrev TG := V → St → Hp → (St → Hp → Prop) → Prop
noncomputable abbrev TGs := List V → St → Hp → (St → Hp → Prop) → Prop
noncomputable def PG (X : Cx) (target : Expr) (t : TG) : Prop :=
  ∀ (pins : List (Addr × Obj)) (s : Shared) (σ : St) (H : Hp) (v : V) (u : Value) (Q : St → Hp → Prop), Inv X pins σ H s → RelV v u → t v σ H Q →
    wpAny (model X.prog X.w) X.A (assign target X.env u) (fun _ s' => ∃ σ' H', Inv X pins σ' H' s' ∧ Q σ' H') X.xe s
noncomputable def PGs (X : Cx) (ts : List Expr) (t : TGs) : Prop :=
  ∀ (pins : List (Addr × Obj)) (s : Shared) (σ : St) (H : Hp) (vs : List V) (us : List Value) (Q : St → Hp → Prop), Inv X pins σ H s → Vals vs us → t vs σ H Q →
    wpAny (model X.prog X.w) X.A (assignInOrder ((assignEach ts X.env).map (·.2)) us) (fun _ s' => ∃ σ' H', Inv X pins σ' H' s' ∧ Q σ' H') X.xe s
noncomputable abbrev TSet := V → V → V → Hp → (Hp → Prop) → Prop
section
variable {X : Cx} {pos : Pos}
noncomputable def gName (i : Nat) : TG := fun v σ H Q => Q (σ.set i (some v)) H
theorem pg_name {i : Nat} {x : Str} (hN : X.N.Nodup) (hi : X.N[i]? = some x) (hx : Loc X.env.scope x) (hf : X.fn x = true ∨ X.env.scope.names.lookup x = some .local := by first | exact .inl rfl | exact .inr rfl | assumption) : PG X (.Name x pos) (gName i) := by
  intro pins s σ H v u Q I r h
  exact wpAny_assign_Name (store_ok I hN hi hx r (fun s' I' => ⟨_, H, I', h⟩) hf)
noncomputable def gNil : TGs := fun vs σ H Q => vs = [] ∧ Q σ H
noncomputable def gCons (t : TG) (u : TGs) : TGs := fun vs σ H Q => ∃ v r, vs = v :: r ∧ t v σ H fun σ' H' => u r σ' H' Q
theorem pgs_nil : PGs X [] gNil := by
  intro pins s σ H vs us Q I r h
  obtain ⟨e, h⟩ := h
  subst e
  cases r
  exact assignInOrder_nil ⟨σ, H, I, h⟩
theorem pgs_cons {e : Expr} {es : List Expr} {t : TG} {u : TGs} (h1 : PG X e t) (h2 : PGs X es u)
    (hs : (assignEach (e :: es) X.env).map (·.2) = assign e X.env :: (assignEach es X.env).map (·.2) := by rfl) : PGs X (e :: es) (gCons t u) := by
  intro pins s σ H vs us Q I r h
  obtain ⟨v, vr, e1, h⟩ := h
  subst e1
  cases r with
  | cons r rr =>
    rw [hs]
    refine assignInOrder_cons (thn (h1 pins s σ H _ _ _ I r h) fun _ s1 ⟨σ1, H1, I1, q1⟩ => ?_)
    exact h2 pins s1 σ1 H1 _ _ Q I1 rr q1
noncomputable def gTup (K : PySem.W.Frag) (n : Nat) (t : TGs) : TG := fun v σ H Q => ∃ a xs, v = .ref a ∧ SqT K H a xs ∧ xs.length = n ∧ t xs σ H Q
theorem pg_tup {es : List Expr} {k : Nat} {t : TGs} {n : Nat} (hc : X.calm = true) (h : PGs X es t)
    (hn : (assignEach es X.env).length = n := by rfl) (hst : (assignEach es X.env).findIdx? (·.1) = none := by rfl) : PG X (.Tuple es k pos) (gTup X.K n t) := by
  intro pins s σ H v u Q I r hw
  obtain ⟨a, xs, e1, hq, hl, hw⟩ := hw
  subst e1
  cases r
  obtain ⟨its, rv, ht, hz⟩ := I.tuple hq
  refine assign_Tuple_tuple (I.ok.hd hc) ht (by simp [hn, ← hl, rv.length]) hst fun h' hx => ?_
  have I1 : Inv X pins σ H { s with heap := h' } := I.kept (t' := s.toks) fun b o e => hx b o (Nat.ne_of_lt (Heap.lt_size e)) e
  exact h pins _ σ H xs _ Q I1 (by simpa using rv) hw
noncomputable def gSub (to ti : TE) (t : TSet) : TG := fun v σ H Q => to σ H fun o H1 => ti σ H1 fun i H2 => t o i v H2 fun H3 => Q σ H3
noncomputable def tAsg (te : TE) (g : TG) : TS := fun D σ H => te σ H fun x H1 => g x σ H1 D.nx
theorem ps_asg {tg e : Expr} {te : TE} {g : TG} (he : PE X e te) (hg : PG X tg g) (hs : swapsWithSole [tg] e pos.line X.env = pure false := by rfl) (hw : swappedStores [tg] e X.env = pure none := by rfl)
    (h1 : (assignEach [tg] X.env).map (·.2) = [assign tg X.env] := by rfl) : PS X (.Assign [tg] e pos) (tAsg te g) := by
  intro pins s σ H D I h
  refine wpAny_Assign_stores (thn (he pins s σ H _ I h) fun v s1 ⟨x, H1, I1, r1, q1⟩ => ?_) hs hw
  rw [h1]
  exact thn (hg pins s1 σ H1 x v _ I1 r1 q1) fun _ s2 q => q
theorem ps_set {i : Nat} {x : Str} {e : Expr} {te : TE} {pos' : Pos} (hN : X.N.Nodup) (hi : X.N[i]? = some x) (hx : Loc X.env.scope x) (he : PE X e te) (hs : swapsWith e (some (.Name x pos')) pos.line X.env = pure false := by rfl) (hf : X.fn x = true ∨ X.env.scope.names.lookup x = some .local := by first | exact .inl rfl | exact .inr rfl | assumption) :
    PS X (.Assign [.Name x pos'] e pos) (tAsg te (gName i)) := by
  intro pins s σ H D I h
  refine wpAny_Assign_Name (thn (he pins s σ H _ I h) fun v s1 ⟨y, H1, I1, r1, q1⟩ => ?_) hs
  exact store_ok I1 hN hi hx r1 (fun s2 I2 => ⟨_, H1, I2, q1⟩) hf
end
section
variable {X : Cx} {pos : Pos}
end
structure It where
  go : Nat → Hp → Prop
  yld : Nat → Hp → V → Hp → Prop
  stop : Nat → Hp → Prop
noncomputable def FpOk (X : Cx) (pins : List (Addr × Obj)) (H : Hp) (b : Addr) : Prop :=
  H b = none ∧ b ≠ X.env.locals ∧ b ∉ X.fs ∧ (b ∈ X.ex ∨ X.s₀.heap.objs.size ≤ b) ∧ (∀ x c, X.env.cells.lookup x = some c → c ≠ b) ∧ ∀ p ∈ X.pn ++ pins, p.1 ≠ b
theorem Inv.fpOk {X : Cx} {pins : List (Addr × Obj)} {σ : St} {H H' : Hp} {s : Shared} {b : Addr} (I : Inv X pins σ H s) (hb : s.heap.objs.size ≤ b) (hn : H' b = none) : FpOk X pins H' b := by
  refine ⟨hn, Nat.ne_of_gt (Nat.lt_of_lt_of_le I.lt hb), I.nofs hb, .inr (Nat.le_trans I.sz hb), fun x c e z => ?_, fun p hp z => ?_⟩
  · obtain ⟨v, q⟩ := I.cell x c e
    exact absurd (Nat.lt_of_lt_of_le q.lt (by rw [z]; exact hb)) (Nat.lt_irrefl _)
  · exact absurd (Nat.lt_of_lt_of_le (Heap.lt_size (I.pin p hp).1) (by rw [z]; exact hb)) (Nat.lt_irrefl _)
structure Turn (P : Program) (w : World) (K : PySem.W.Frag) (tg : Expr) (J : It) (fp : List Addr) (it : Addr) (tn : Nat → Heap → Prop) : Prop where
  mem : it ∈ fp
  obj : ∀ i h, tn i h → ∀ b ∈ fp, ∃ o, h.get? b = some o ∧ ∀ v, o.data ≠ .cell v
  keep : ∀ i h h', tn i h → (∀ b ∈ fp, ∀ o, h.get? b = some o → h'.get? b = some o) → tn i h'
  item : ∀ (X : Cx), X.prog = P → X.w = w → X.K = K → X.calm = true → ∀ (i : Nat) (pins : List (Addr × Obj)) (s : Shared) (σ : St) (H : Hp) (E : Value → Shared → Prop), Inv X pins σ H s → (∀ b ∈ fp, FpOk X pins H b) → tn i s.heap → J.go i H →
    wpAny (model P w) X.A (pyNext (.ref it)) (fun r s1 => ∃ u, r = some u ∧
      wpAny (model P w) X.A (letOwnedTupleGo tg (.ref it) u) (fun _ s2 => ∃ x H', Inv X pins σ H' s2 ∧ RelV x u ∧ J.yld i H x H' ∧ tn (i + 1) s2.heap ∧ ∀ b ∈ fp, H' b = none) E s1) E s
  done : ∀ (X : Cx), X.prog = P → X.w = w → X.K = K → X.calm = true → ∀ (i : Nat) (pins : List (Addr × Obj)) (s : Shared) (σ : St) (H : Hp) (E : Value → Shared → Prop), Inv X pins σ H s → (∀ b ∈ fp, FpOk X pins H b) → tn i s.heap → J.stop i H →
    wpAny (model P w) X.A (pyNext (.ref it)) (fun r s1 => r = none ∧ Inv X pins σ H s1) E s
  self : ∀ (A : Around) (i : Nat) (s : Shared) (Q : Value → Shared → Prop) (E : Value → Shared → Prop), tn i s.heap → Q (.ref it) s → wpAny (model P w) A (pyIter (.ref it)) Q E s
noncomputable abbrev TI := St → Hp → (It → Hp → Prop) → Prop
noncomputable def PIE (X : Cx) (pins : List (Addr × Obj)) (σ : St) (tg : Expr) (R : It → Hp → Prop) (itv : Value) (s2 : Shared) : Prop :=
  ∃ (it : Addr) (fp : List Addr) (tn : Nat → Heap → Prop) (J : It) (H' : Hp), itv = .ref it ∧ Inv X pins σ H' s2 ∧ Turn X.prog X.w X.K tg J fp it tn ∧ tn 0 s2.heap ∧ (∀ b ∈ fp, FpOk X pins H' b) ∧ R J H'
noncomputable def PI (X : Cx) (tg iter : Expr) (wi : TI) : Prop :=
  ∀ (pins : List (Addr × Obj)) (s : Shared) (σ : St) (H : Hp) (R : It → Hp → Prop), Inv X pins σ H s → wi σ H R →
    wpAny (model X.prog X.w) X.A (eval iter X.env) (fun v s1 => wpAny (model X.prog X.w) X.A (pyIter v) (PIE X pins σ tg R) X.xe s1) X.xe s
theorem go_of {M : Model} {A : Around} {E : Value → Shared → Prop} {s : Shared} {tg : Expr} {it : Addr} {u : Value} {o : Obj} {n : String} {vs : Array Value} {Q : Unit → Shared → Prop} (ho : s.heap.get? it = some o) (hc : o.cls = .type n) (hd : o.data = .fields vs)
    (hn : ["enumerate", "zip", "dict_itemiterator", "dict_reverseitemiterator", "odict_iterator", "itertools.zip_longest", "itertools.pairwise"].contains n = false) (hQ : Q () s) : wpAny M A (letOwnedTupleGo tg (.ref it) u) Q E s := by
  unfold letOwnedTupleGo
  cases tg <;> first
    | exact wpAny_pure hQ
    | (cases u <;> first
        | exact wpAny_pure hQ
        | (refine wpAny_bind (wpAny_load ho ?_)
           rw [hc, hd]
           show wpAny M A (if (["enumerate", "zip", "dict_itemiterator", "dict_reverseitemiterator", "odict_iterator", "itertools.zip_longest", "itertools.pairwise"].contains n && vs[0]? == some (rawInt _)) = true then _ else _) Q E s
           rw [if_neg (by intro h; rw [hn, Bool.false_and] at h; cases h)]
           exact wpAny_pure hQ))
noncomputable def Itl (K : PySem.W.Frag) (a : Addr) : It :=
  ⟨fun i H => ∃ xs x, SqL K H a xs ∧ xs[i]? = some x, fun i H x H' => H' = H ∧ ∀ xs, SqL K H a xs → xs[i]? = some x, fun i H => ∃ xs, SqL K H a xs ∧ xs.length ≤ i⟩
noncomputable def Itt (K : PySem.W.Frag) (a : Addr) : It :=
  ⟨fun i H => ∃ xs x, SqT K H a xs ∧ xs[i]? = some x, fun i H x H' => H' = H ∧ ∀ xs, SqT K H a xs → xs[i]? = some x, fun i H => ∃ xs, SqT K H a xs ∧ xs.length ≤ i⟩
noncomputable def Itr (lo : Int) (n : Nat) : It := ⟨fun i _ => i < n, fun i H x H' => H' = H ∧ x = .int (lo + i), fun i _ => n ≤ i⟩
theorem turn_list {P : Program} {w : World} {K : PySem.W.Frag} {tg : Expr} (a it : Addr) : Turn P w K tg (Itl K a) [it] it (fun i h => h.IsListIter it a i) where
  mem := by simp
  obj := fun i h st b hb => by
    have e : b = it := by simpa using hb
    subst e
    obtain ⟨o, e, c, d⟩ := st
    exact ⟨o, e, fun v z => by rw [d] at z; cases z⟩
  keep := fun i h h' st k => st.at fun o e => k it (by simp) o e
  item := by
    intro X hP hw hK hc i pins s σ H E I hf st hg
    subst hP hw hK
    obtain ⟨xs, x, hq, hx⟩ := hg
    obtain ⟨its, rv, p, hz⟩ := I.list hq
    obtain ⟨u, hu, ru⟩ := rv.get hx
    obtain ⟨f0, f1, f2, f3, f4, f5⟩ := hf it (by simp)
    refine wpAny_pyNext_list_item st p.isList (x := u) (by simpa using hu) fun h' st' sb => ?_
    have I1 : Inv X pins σ H { s with heap := h' } := I.turned (t' := s.toks) (fun b o hb e => (sb.2 b hb).trans e) f0 f1 f3 f4 f5
    obtain ⟨o, e, c, d⟩ := id st'
    exact ⟨u, rfl, go_of (s := { s with heap := h' }) e c d (by decide) ⟨x, H, I1, ru, ⟨rfl, fun ys hy => by rw [I.list_inj hy hq]; exact hx⟩, st', fun b hb => (hf b hb).1⟩⟩
  done := by
    intro X hP hw hK hc i pins s σ H E I hf st hg
    subst hP hw hK
    obtain ⟨xs, hq, hx⟩ := hg
    obtain ⟨its, rv, p, hz⟩ := I.list hq
    obtain ⟨f0, f1, f2, f3, f4, f5⟩ := hf it (by simp)
    have hl := rv.length
    exact wpAny_pyNext_list_end (I.ok.hd hc) st p.isList (by simp; lia) fun h' eb => ⟨rfl, I.turned (t' := s.toks) (fun b o hb e => eb b o hb e) f0 f1 f3 f4 f5⟩
  self := fun _ _ _ _ _ st h => wpAny_pyIter_listiter st h
theorem turn_tuple {P : Program} {w : World} {K : PySem.W.Frag} {tg : Expr} (a it : Addr) : Turn P w K tg (Itt K a) [it] it (fun i h => h.IsTupleIter it a i) where
  mem := by simp
  obj := fun i h st b hb => by
    have e : b = it := by simpa using hb
    subst e
    obtain ⟨o, e, c, d⟩ := st
    exact ⟨o, e, fun v z => by rw [d] at z; cases z⟩
  keep := fun i h h' st k => st.at fun o e => k it (by simp) o e
  item := by
    intro X hP hw hK hc i pins s σ H E I hf st hg
    subst hP hw hK
    obtain ⟨xs, x, hq, hx⟩ := hg
    obtain ⟨its, rv, p, hz⟩ := I.tuple hq
    obtain ⟨u, hu, ru⟩ := rv.get hx
    obtain ⟨f0, f1, f2, f3, f4, f5⟩ := hf it (by simp)
    refine wpAny_pyNext_tuple_item st (show s.heap.IsTuple a its.toArray from p) (x := u) (by simpa using hu) fun h' st' sb => ?_
    have I1 : Inv X pins σ H { s with heap := h' } := I.turned (t' := s.toks) (fun b o hb e => (sb.2 b hb).trans e) f0 f1 f3 f4 f5
    obtain ⟨o, e, c, d⟩ := id st'
    exact ⟨u, rfl, go_of (s := { s with heap := h' }) e c d (by decide) ⟨x, H, I1, ru, ⟨rfl, fun ys hy => by rw [I.tuple_inj hy hq]; exact hx⟩, st', fun b hb => (hf b hb).1⟩⟩
  done := by
    intro X hP hw hK hc i pins s σ H E I hf st hg
    subst hP hw hK
    obtain ⟨xs, hq, hx⟩ := hg
    obtain ⟨its, rv, p, hz⟩ := I.tuple hq
    obtain ⟨f0, f1, f2, f3, f4, f5⟩ := hf it (by simp)
    have hl := rv.length
    exact wpAny_pyNext_tuple_end (I.ok.hd hc) st (show s.heap.IsTuple a its.toArray from p) (by simp; lia) fun h' eb => ⟨rfl, I.turned (t' := s.toks) (fun b o hb e => eb b o hb e) f0 f1 f3 f4 f5⟩
  self := fun _ _ _ _ _ st h => wpAny_pyIter_tupleiter st h
theorem turn_range {P : Program} {w : World} {K : PySem.W.Frag} {tg : Expr} (it : Addr) (lo : Int) (n : Nat) : Turn P w K tg (Itr lo n) [it] it (fun i h => IsRangeIter h it (lo + (i : Nat) * 1) ((n : Int) - (i : Nat)) 1) where
  mem := by simp
  obj := fun i h st b hb => by
    have e : b = it := by simpa using hb
    subst e
    exact ⟨_, st, fun v z => by
      have z' : Data.fields _ = Data.cell v := z
      cases z'⟩
  keep := fun i h h' st k => k it (by simp) _ st
  item := by
    intro X hP hw hK hc i pins s σ H E I hf st hg
    subst hP hw hK
    obtain ⟨f0, f1, f2, f3, f4, f5⟩ := hf it (by simp)
    have W := Walks.range (prog := X.prog) (w := X.w) (I.ok.hd hc) it lo 1 n
    refine W.item i s _ _ hg st fun v h' tk hv st' kk => ?_
    obtain ⟨t, rfl⟩ := hv
    have I1 : Inv X pins σ H { s with heap := h', toks := tk } := I.turned (fun b o hb e => kk b o (by simpa using hb) e) f0 f1 f3 f4 f5
    refine ⟨_, rfl, go_of (s := { s with heap := h', toks := tk }) (n := "range_iterator") st' rfl rfl (by decide) ⟨.int (lo + i), H, I1, ⟨t, ?_⟩, ⟨rfl, rfl⟩, st', fun b hb => (hf b hb).1⟩⟩
    rw [Int.mul_one]
  done := by
    intro X hP hw hK hc i pins s σ H E I hf st hg
    subst hP hw hK
    obtain ⟨f0, f1, f2, f3, f4, f5⟩ := hf it (by simp)
    exact wpAny_pyNext_range_end (I.ok.hd hc) st (by have : n ≤ i := hg; lia) fun h' eb => ⟨rfl, I.turned (t' := s.toks) (fun b o hb e => eb b o hb e) f0 f1 f3 f4 f5⟩
  self := fun _ _ _ _ _ st h => wpAny_pyIter_rangeiter st h
end L2
namespace L2
open PySem PySem.Spec PyProof.Rows
section
variable {X : Cx} {tg : Expr}
noncomputable def iList (K : PySem.W.Frag) (tl : TE) : TI := fun σ H R => tl σ H fun x H1 => ∃ a, x = .ref a ∧ (∃ xs, SqL K H1 a xs) ∧ R (Itl K a) H1
noncomputable def iTup (K : PySem.W.Frag) (tl : TE) : TI := fun σ H R => tl σ H fun x H1 => ∃ a, x = .ref a ∧ (∃ xs, SqT K H1 a xs) ∧ R (Itt K a) H1
theorem pi_list {l : Expr} {tl : TE} (hl : PE X l tl) : PI X tg l (iList X.K tl) := by
  intro pins s σ H R I h
  refine thn (hl pins s σ H _ I h) fun v s1 ⟨x, H1, I1, r1, q1⟩ => ?_
  obtain ⟨a, e, ⟨xs, hq⟩, q⟩ := q1
  subst e
  cases r1
  obtain ⟨its, rv, p, hz⟩ := I1.list hq
  refine wpAny_pyIter_list p.isList ?_
  refine ⟨s1.heap.objs.size, [s1.heap.objs.size], _, _, H1, rfl, I1.kept (t' := s1.toks) fun b o e => Heap.get?_push_of_some _ e, turn_list a _, ⟨_, Heap.get?_push_size _ rfl, rfl, rfl⟩, fun b hb => ?_, q⟩
  have e : b = s1.heap.objs.size := by simpa using hb
  subst e
  exact I1.fpOk (Nat.le_refl _) (I1.hok.fresh (Nat.le_refl _))
theorem pi_tup {l : Expr} {tl : TE} (hl : PE X l tl) : PI X tg l (iTup X.K tl) := by
  intro pins s σ H R I h
  refine thn (hl pins s σ H _ I h) fun v s1 ⟨x, H1, I1, r1, q1⟩ => ?_
  obtain ⟨a, e, ⟨xs, hq⟩, q⟩ := q1
  subst e
  cases r1
  obtain ⟨its, rv, p, hz⟩ := I1.tuple hq
  refine wpAny_pyIter_tuple (show s1.heap.IsTuple a its.toArray from p) ?_
  refine ⟨s1.heap.objs.size, [s1.heap.objs.size], _, _, H1, rfl, I1.kept (t' := s1.toks) fun b o e => Heap.get?_push_of_some _ e, turn_tuple a _, ⟨_, Heap.get?_push_size _ rfl, rfl, rfl⟩, fun b hb => ?_, q⟩
  have e : b = s1.heap.objs.size := by simpa using hb
  subst e
  exact I1.fpOk (Nat.le_refl _) (I1.hok.fresh (Nat.le_refl _))
theorem range_it {pins : List (Addr × Obj)} {σ : St} {H : Hp} {s : Shared} {R : It → Hp → Prop} {E : Value → Shared → Prop} {lo hi : Int} {t u v : Tok} {tk : Nat} (I : Inv X pins σ H s) (h1 : -(2 ^ 62) ≤ lo) (h2 : lo < 2 ^ 62) (h3 : -(2 ^ 62) ≤ hi) (h4 : hi < 2 ^ 62)
    (q : R (Itr lo (hi - lo).toNat) H) : wpAny (model X.prog X.w) X.A (pyIter (.ref s.heap.objs.size)) (PIE X pins σ tg R) E { s with heap := s.heap.push { cls := .type "range", data := .fields #[.int lo t, .int hi u, .int 1 v] }, toks := tk } := by
  refine wpAny_pyIter_range (IsRange.new ..) (small_one h1 h2 h3 h4) ?_
  have I1 : Inv X pins σ H { s with heap := s.heap.push { cls := .type "range", data := .fields #[.int lo t, .int hi u, .int 1 v] }, toks := tk } := I.kept fun b o e => Heap.get?_push_of_some _ e
  refine ⟨(s.heap.push { cls := .type "range", data := .fields #[.int lo t, .int hi u, .int 1 v] }).objs.size, [(s.heap.push { cls := .type "range", data := .fields #[.int lo t, .int hi u, .int 1 v] }).objs.size], _, _, H, rfl,
    I1.kept (t' := tk) fun b o e => Heap.get?_push_of_some _ e, turn_range _ lo (hi - lo).toNat, ?_, fun b hb => ?_, q⟩
  · have e1 : lo + ((0 : Nat) : Int) * 1 = lo := by simp
    have e2 : (((hi - lo).toNat : Nat) : Int) - ((0 : Nat) : Int) = Builtin.Range.rangeSize lo hi 1 := by rw [rangeSize_one]; split <;> lia
    show IsRangeIter _ _ (lo + ((0 : Nat) : Int) * 1) ((((hi - lo).toNat : Nat) : Int) - ((0 : Nat) : Int)) 1
    rw [e1, e2]
    exact Heap.get?_push_size _ rfl
  · have e : b = (s.heap.push { cls := .type "range", data := .fields #[.int lo t, .int hi u, .int 1 v] }).objs.size := by simpa using hb
    subst e
    exact I1.fpOk (Nat.le_refl _) (I1.hok.fresh (Nat.le_refl _))
noncomputable def iRng1 (ta : TA) : TI := fun σ H R => ta σ H fun vs H1 => ∃ j : Int, vs = [.int j] ∧ -(2 ^ 62) ≤ j ∧ j < 2 ^ 62 ∧ R (Itr 0 j.toNat) H1
noncomputable def iRng2 (ta : TA) : TI := fun σ H R => ta σ H fun vs H1 => ∃ i j : Int, vs = [.int i, .int j] ∧ (-(2 ^ 62) ≤ i ∧ i < 2 ^ 62 ∧ -(2 ^ 62) ≤ j ∧ j < 2 ^ 62) ∧ R (Itr i (j - i).toNat) H1
theorem pi_range1 {a : Expr} {ta : TA} {p pos : Pos} (hg : Gl X "range") (hm : X.mg "range" = none) (ha : PA X [a] ta) (hs : starEach [a] X.env = [(false, eval a X.env)] := by rfl) : PI X tg (.Call (.Name "range" p) [a] [] pos) (iRng1 ta) := by
  intro pins s σ H R I h
  refine Call_ (ld_blt I hg hm boot_range (PyProof.Rows.callWith_type1 (thn (ha pos pins s σ H _ I h) fun us s1 ⟨vs, H1, I1, r1, q1⟩ => ?_) hs rfl))
  obtain ⟨j, e, q1, q2, q⟩ := q1
  subst e
  cases r1 with
  | cons r rr =>
    cases rr
    obtain ⟨t, rfl⟩ := r
    exact call_range_1 (range_it I1 (by lia) (by lia) q1 q2 (by simpa using q))
theorem pi_range2 {a b : Expr} {ta : TA} {p pos : Pos} (hg : Gl X "range") (hm : X.mg "range" = none) (ha : PA X [a, b] ta) (hs : starEach [a, b] X.env = [(false, eval a X.env), (false, eval b X.env)] := by rfl) (hs2 : starEach [b] X.env = [(false, eval b X.env)] := by rfl) :
    PI X tg (.Call (.Name "range" p) [a, b] [] pos) (iRng2 ta) := by
  intro pins s σ H R I h
  refine Call_ (ld_blt I hg hm boot_range (PyProof.Rows.callWith_type1 (thn (ha pos pins s σ H _ I h) fun us s1 ⟨vs, H1, I1, r1, q1⟩ => ?_) (by rw [hs, hs2]) (by rw [hs2]; rfl)))
  obtain ⟨i, j, e, ⟨q1, q2, q3, q4⟩, q⟩ := q1
  subst e
  cases r1 with
  | cons r rr =>
    cases rr with
    | cons r' rr =>
      cases rr
      obtain ⟨t, rfl⟩ := r
      obtain ⟨t', rfl⟩ := r'
      exact call_range_2 (range_it I1 q1 q2 q3 q4 q)
noncomputable def tFor (wi : TI) (g : TG) (tb : TS) : TS := fun D σ H => wi σ H fun J H1 => ∃ W : Nat → Nat → St → Hp → Prop, (∃ m, W 0 m σ H1) ∧ ∀ i m σ H, W i m σ H →
  (J.stop i H ∧ D.nx σ H) ∨ (J.go i H ∧ ∃ N : St → Hp → Prop, (∀ σ' H', N σ' H' → ∃ m', m' < m ∧ W (i + 1) m' σ' H') ∧ ∀ x H', J.yld i H x H' → g x σ H' fun σ2 H2 => tb { D with nx := N, ct := N, bk := D.nx } σ2 H2)
noncomputable def pinsAt (fp : List Addr) (h : Heap) : List (Addr × Obj) := fp.filterMap fun b => (h.get? b).map fun o => (b, o)
theorem mem_pinsAt {fp : List Addr} {h : Heap} {b : Addr} {o : Obj} (hb : b ∈ fp) (e : h.get? b = some o) : (b, o) ∈ pinsAt fp h := List.mem_filterMap.mpr ⟨b, hb, by rw [e]; rfl⟩
theorem of_pinsAt {fp : List Addr} {h : Heap} {p : Addr × Obj} (hp : p ∈ pinsAt fp h) : p.1 ∈ fp ∧ h.get? p.1 = some p.2 := by
  obtain ⟨b, hb, e⟩ := List.mem_filterMap.mp hp
  cases q : h.get? b with
  | none => rw [q] at e; cases e
  | some o =>
    rw [q] at e
    have e' : (b, o) = p := Option.some.inj e
    subst e'
    exact ⟨hb, q⟩
theorem Inv.pinned {pins : List (Addr × Obj)} {σ : St} {H : Hp} {s : Shared} {fp : List Addr} (I : Inv X pins σ H s) (hf : ∀ b ∈ fp, FpOk X pins H b) (ho : ∀ b ∈ fp, ∃ o, s.heap.get? b = some o ∧ ∀ v, o.data ≠ .cell v) : Inv X (pins ++ pinsAt fp s.heap) σ H s :=
  I.pins_of fun p hp => (List.mem_append.mp hp).elim (fun z => I.pin p (List.mem_append_right _ z)) fun z => by
    obtain ⟨hb, e⟩ := of_pinsAt z
    obtain ⟨f0, f1, f2, _⟩ := hf p.1 hb
    obtain ⟨o, e', d⟩ := ho p.1 hb
    rw [e] at e'; cases e'
    exact ⟨e, f0, f1, f2, d⟩
theorem Inv.unpinned {pins pl : List (Addr × Obj)} {σ : St} {H : Hp} {s : Shared} (I : Inv X (pins ++ pl) σ H s) : Inv X pins σ H s := I.pins_of fun p hp => I.pin p (List.mem_append_right _ (List.mem_append_left _ hp))
theorem ps_for {iter : Expr} {body : List Stmt} {wi : TI} {g : TG} {tb : TS} {pos : Pos} (hp : PassesOwn (model X.prog X.w) X.A X.env X.xe) (hc : X.calm = true) (hi : PI X tg iter wi) (hg : PG X tg g) (hb : PSs X body tb)
    (hs : ∀ x, foldedSetIterable iter X.env x = pure x := by intro _; rfl) : PS X (.For tg iter body [] pos) (tFor wi g tb) := by
  intro pins s σ H D I h
  refine wpAny_For (thn (hi pins s σ H _ I h) fun v s1 h1 => thn h1 fun itv s2 h2 => ?_) hs
  obtain ⟨it, fp, tn, J, H2, e, I2, T, st2, f2, W, ⟨m0, w0⟩, turn⟩ := h2
  subst e
  have stat : ∀ {H' : Hp}, (∀ b ∈ fp, H' b = none) → ∀ b ∈ fp, FpOk X pins H' b := fun hn b hb => ⟨hn b hb, (f2 b hb).2⟩
  refine codeAny_forLoop_any (fun n s' => ∃ i σ' H', Inv X pins σ' H' s' ∧ tn i s'.heap ∧ (∀ b ∈ fp, H' b = none) ∧ W i n σ' H') ?_ m0 ⟨0, σ, H2, I2, st2, fun b hb => (f2 b hb).1, w0⟩
  rintro n s3 ⟨i, σ3, H3, I3, st3, fr3, w3⟩
  rcases turn i n σ3 H3 w3 with ⟨stop, qn⟩ | ⟨go, N, hN, step⟩
  · refine wpAny_passesOwn hp (thn (T.done X rfl rfl rfl hc i pins s3 σ3 H3 X.xe I3 (stat fr3) st3 stop) fun r s4 ⟨hr, I4⟩ => ?_)
    subst hr
    exact wpAny_execs_nil ⟨σ3, H3, I4, qn⟩
  · refine wpAny_passesOwn hp (thn (T.item X rfl rfl rfl hc i pins s3 σ3 H3 X.xe I3 (stat fr3) st3 go) fun r s4 ⟨u, hr, h4⟩ => ?_)
    subst hr
    refine wpAny_passesOwn hp (thn h4 fun _ s5 ⟨x, H5, I5, r5, y5, st5, fr5⟩ => ?_)
    have I5' := I5.pinned (stat fr5) (T.obj _ _ st5)
    refine wpAny_passesOwn hp (thn (hg _ s5 σ3 H5 x u _ I5' r5 (step x H5 y5)) fun _ s6 ⟨σ6, H6, I6, q6⟩ => ?_)
    refine wpAny_passesOwn hp (thn (hb _ s6 σ6 H6 _ I6 q6) fun f s7 q7 => ?_)
    have again : ∀ {σ7 : St} {H7 : Hp}, Inv X (pins ++ pinsAt fp s5.heap) σ7 H7 s7 → N σ7 H7 → ∃ m, m < n ∧ ∃ i σ' H', Inv X pins σ' H' s7 ∧ tn i s7.heap ∧ (∀ b ∈ fp, H' b = none) ∧ W i m σ' H' := fun {σ7 H7} I7 n7 => by
      obtain ⟨m', hm, w7⟩ := hN σ7 H7 n7
      refine ⟨m', hm, i + 1, σ7, H7, I7.unpinned, T.keep _ _ _ st5 fun b hb o e => (I7.pin (b, o) (List.mem_append_right _ (List.mem_append_right _ (mem_pinsAt hb e)))).1, fun b hb => ?_, w7⟩
      obtain ⟨o, e, d⟩ := T.obj _ _ st5 b hb
      exact (I7.pin (b, o) (List.mem_append_right _ (List.mem_append_right _ (mem_pinsAt hb e)))).2.1
    cases f with
    | next => obtain ⟨σ7, H7, I7, n7⟩ := q7; exact again I7 n7
    | cont => obtain ⟨σ7, H7, I7, n7⟩ := q7; exact again I7 n7
    | brk => obtain ⟨σ7, H7, I7, q7⟩ := q7; exact ⟨σ7, H7, I7.unpinned, q7⟩
    | ret v => obtain ⟨x7, σ7, H7, I7, r7, q7⟩ := q7; exact ⟨x7, σ7, H7, I7.unpinned, r7, q7⟩
end
end L2
namespace L2
open PySem PySem.Spec PyProof.Rows
noncomputable abbrev R2 := V → V → Hp → VK → Prop
noncomputable def OpR (X : Cx) (f : Value → Value → Sem Value) (r : R2) : Prop :=
  ∀ (pins : List (Addr × Obj)) (s : Shared) (σ : St) (H : Hp) (x y : V) (v u : Value) (Q : VK), Inv X pins σ H s → RelV x v → RelV y u → r x y H Q →
    wpAny (model X.prog X.w) X.A (f v u) (EP X pins σ Q) X.xe s
noncomputable def UnR (X : Cx) (f : Value → Sem Value) (r : V → Hp → VK → Prop) : Prop :=
  ∀ (pins : List (Addr × Obj)) (s : Shared) (σ : St) (H : Hp) (x : V) (v : Value) (Q : VK), Inv X pins σ H s → RelV x v → r x H Q →
    wpAny (model X.prog X.w) X.A (f v) (EP X pins σ Q) X.xe s
noncomputable def CallR (X : Cx) (f : Value) (r : List V → Hp → VK → Prop) : Prop :=
  ∀ (pins : List (Addr × Obj)) (s : Shared) (σ : St) (H : Hp) (xs : List V) (us : List Value) (Q : VK), Inv X pins σ H s → Vals xs us → r xs H Q →
    wpAny (model X.prog X.w) X.A (call f us) (EP X pins σ Q) X.xe s
noncomputable def TruR (X : Cx) (r : V → Hp → (Bool → Hp → Prop) → Prop) : Prop :=
  ∀ (pins : List (Addr × Obj)) (s : Shared) (σ : St) (H : Hp) (x : V) (v : Value) (Q : Bool → Hp → Prop), Inv X pins σ H s → RelV x v → r x H Q →
    wpAny (model X.prog X.w) X.A (truthy v) (TP X pins σ Q) X.xe s
noncomputable def tOp (r : R2) (ta tb : TE) : TE := fun σ H Q => ta σ H fun x H1 => tb σ H1 fun y H2 => r x y H2 Q
noncomputable def tUn (r : V → Hp → VK → Prop) (ta : TE) : TE := fun σ H Q => ta σ H fun x H1 => r x H1 Q
noncomputable def rI (C : Int → Int → Prop) (g : Int → Int → V) : R2 := fun x y H Q => ∃ i j, x = .int i ∧ y = .int j ∧ C i j ∧ Q (g i j) H
noncomputable def rI0 (g : Int → Int → V) : R2 := fun x y H Q => ∃ i j, x = .int i ∧ y = .int j ∧ Q (g i j) H
noncomputable def rU (g : Int → V) : V → Hp → VK → Prop := fun x H Q => ∃ i, x = .int i ∧ Q (g i) H
section
variable {X : Cx} {a b c : Expr} {ta tb tc : TE} {pos : Pos}
theorem binT (ha : PE X a ta) (hb : PE X b tb) {pins : List (Addr × Obj)} {s : Shared} {σ : St} {H : Hp} {R : V → V → Hp → Prop} (I : Inv X pins σ H s)
    (h : ta σ H fun x H1 => tb σ H1 fun y H2 => R x y H2) {Q : Value → Shared → Prop} {f : Value → Value → Sem Value}
    (hf : ∀ v u s2 x y H2, Inv X pins σ H2 s2 → RelV x v → RelV y u → R x y H2 → wpAny (model X.prog X.w) X.A (f v u) Q X.xe s2) :
    wpAny (model X.prog X.w) X.A (eval a X.env) (fun v s₁ => wpAny (model X.prog X.w) X.A (eval b X.env) (fun u s₂ => wpAny (model X.prog X.w) X.A (f v u) Q X.xe s₂) X.xe s₁) X.xe s := by
  refine thn (ha pins s σ H _ I h) fun v s1 ⟨x, H1, I1, r1, q1⟩ => ?_
  refine thn (hb pins s1 σ H1 _ I1 q1) fun u s2 ⟨y, H2, I2, r2, q2⟩ => ?_
  exact hf v u s2 x y H2 I2 r1 r2 q2
theorem pe_un {op : UnaryOp} {r : V → Hp → VK → Prop} (ho : UnR X (unaryOp op) r) (ha : PE X a ta) : PE X (.UnaryOp op a pos) (tUn r ta) := by
  intro pins s σ H Q I h
  exact UnaryOp_ (thn (ha pins s σ H _ I h) fun v s1 ⟨x, H1, I1, r1, q1⟩ => ho pins s1 σ H1 x v Q I1 r1 q1)
theorem opI {f : Value → Value → Sem Value} {C : Int → Int → Prop} {g : Int → Int → Int}
    (rule : ∀ (i j : Int) (t u : Tok) (s : Shared) (Q : Value → Shared → Prop) (E : Value → Shared → Prop), C i j → Q (.int (g i j) s.toks) { s with toks := s.toks + 1 } → wpAny (model X.prog X.w) X.A (f (.int i t) (.int j u)) Q E s) :
    OpR X f (rI C fun i j => .int (g i j)) := by
  intro pins s σ H x y v u Q I rx ry h
  obtain ⟨i, j, rfl, rfl, hc, q⟩ := h
  obtain ⟨t, rfl⟩ := rx
  obtain ⟨t', rfl⟩ := ry
  exact rule i j t t' s _ _ hc ⟨.int (g i j), H, I.tok _, ⟨_, rfl⟩, q⟩
theorem opI0 {f : Value → Value → Sem Value} {g : Int → Int → Int}
    (rule : ∀ (i j : Int) (t u : Tok) (s : Shared) (Q : Value → Shared → Prop) (E : Value → Shared → Prop), Q (.int (g i j) s.toks) { s with toks := s.toks + 1 } → wpAny (model X.prog X.w) X.A (f (.int i t) (.int j u)) Q E s) :
    OpR X f (rI0 fun i j => .int (g i j)) := by
  intro pins s σ H x y v u Q I rx ry h
  obtain ⟨i, j, rfl, rfl, q⟩ := h
  obtain ⟨t, rfl⟩ := rx
  obtain ⟨t', rfl⟩ := ry
  exact rule i j t t' s _ _ ⟨.int (g i j), H, I.tok _, ⟨_, rfl⟩, q⟩
theorem opB0 {f : Value → Value → Sem Value} {g : Int → Int → Bool}
    (rule : ∀ (i j : Int) (t u : Tok) (s : Shared) (Q : Value → Shared → Prop) (E : Value → Shared → Prop), Q (.bool (g i j)) s → wpAny (model X.prog X.w) X.A (f (.int i t) (.int j u)) Q E s) :
    OpR X f (rI0 fun i j => .bl (g i j)) := by
  intro pins s σ H x y v u Q I rx ry h
  obtain ⟨i, j, rfl, rfl, q⟩ := h
  obtain ⟨t, rfl⟩ := rx
  obtain ⟨t', rfl⟩ := ry
  exact rule i j t t' s _ _ ⟨.bl (g i j), H, I, rfl, q⟩
noncomputable def CDiv (i j : Int) : Prop := 0 < j ∧ j < 1073741824
noncomputable def CMul (i j : Int) : Prop := (-(2 ^ 64) < i ∧ i < 2 ^ 64) ∨ (-(2 ^ 64) < j ∧ j < 2 ^ 64)
theorem CMul.ok {i j : Int} (h : CMul i j) : IntMulOk i j := by
  rcases h with ⟨h1, h2⟩ | ⟨h1, h2⟩
  · exact .of_left (intBits_le_64 h1 h2)
  · exact .of_right (intBits_le_64 h1 h2)
theorem op_add : OpR X (binaryOp .Add) (rI0 fun i j => .int (i + j)) := opI0 fun _ _ _ _ _ _ _ q => add_int q
theorem op_sub : OpR X (binaryOp .Sub) (rI0 fun i j => .int (i - j)) := opI0 fun _ _ _ _ _ _ _ q => sub_int q
theorem op_mul : OpR X (binaryOp .Mult) (rI CMul fun i j => .int (i * j)) := opI fun _ _ _ _ _ _ _ hc q => mul_int q hc.ok
theorem op_fdiv : OpR X (binaryOp .FloorDiv) (rI CDiv fun i j => .int (i / j)) := opI fun i j _ _ _ _ _ hc q => by
  have h1 : (0 : Int) < j := hc.1
  have h2 : j < 1073741824 := hc.2
  exact floordiv_int (by lia) (by rw [Int.fdiv_eq_ediv_of_nonneg i (by lia)]; exact q) (.inl (PyProof.noPylong_small (by lia)))
theorem op_mod : OpR X (binaryOp .Mod) (rI (fun _ j => 0 < j) fun i j => .int (i % j)) := opI fun i j _ _ _ _ _ hc q => by
  have h1 : (0 : Int) < j := hc
  exact mod_int' (by lia) (by rw [Int.fmod_eq_emod_of_nonneg i (by lia)]; exact q)
theorem unI {f : Value → Sem Value} {g : Int → Int}
    (rule : ∀ (i : Int) (t : Tok) (s : Shared) (Q : Value → Shared → Prop) (E : Value → Shared → Prop), Q (.int (g i) s.toks) { s with toks := s.toks + 1 } → wpAny (model X.prog X.w) X.A (f (.int i t)) Q E s) :
    UnR X f (rU fun i => .int (g i)) := by
  intro pins s σ H x v Q I rx h
  obtain ⟨i, rfl, q⟩ := h
  obtain ⟨t, rfl⟩ := rx
  exact rule i t s _ _ ⟨.int (g i), H, I.tok _, ⟨_, rfl⟩, q⟩
theorem un_neg : UnR X (unaryOp .USub) (rU fun i => .int (-i)) := unI fun _ _ _ _ _ q => neg_int q
end
section
variable {X : Cx} {a b c : Expr} {ta tb tc : TE} {pos : Pos}
theorem op_lt : OpR X (compareOp .Lt) (rI0 fun i j => .bl (decide (i < j))) := opB0 fun _ _ _ _ _ _ _ q => lt_int q
theorem op_le : OpR X (compareOp .LtE) (rI0 fun i j => .bl (decide (i ≤ j))) := opB0 fun _ _ _ _ _ _ _ q => le_int q
theorem op_gt : OpR X (compareOp .Gt) (rI0 fun i j => .bl (decide (j < i))) := opB0 fun _ _ _ _ _ _ _ q => gt_int q
theorem op_ge : OpR X (compareOp .GtE) (rI0 fun i j => .bl (decide (j ≤ i))) := opB0 fun _ _ _ _ _ _ _ q => ge_int q
theorem OpR.or {f : Value → Value → Sem Value} {r r' : R2} (h : OpR X f r) (h' : OpR X f r') : OpR X f (fun x y H Q => r x y H Q ∨ r' x y H Q) := by
  intro pins s σ H x y v u Q I rx ry q
  rcases q with q | q
  · exact h pins s σ H x y v u Q I rx ry q
  · exact h' pins s σ H x y v u Q I rx ry q
theorem nomark (b : Expr) {op : CmpOp} (h : op ≠ .In := by decide) (h2 : op ≠ .NotIn := by decide) : behindInMarks op b = false := by
  have e1 : (op == CmpOp.In) = false := by cases op <;> first | rfl | exact absurd rfl h
  have e2 : (op == CmpOp.NotIn) = false := by cases op <;> first | rfl | exact absurd rfl h2
  cases b <;> simp [behindInMarks, e1, e2]
noncomputable def TruV (K : PySem.W.Frag) (x : V) (H : Hp) (k : Bool) : Prop :=
  match x with
  | .non => k = false
  | .bl b => k = b
  | .int i => k = (i != 0)
  | .str y => y.length ≤ sizeLine ∧ k = ((y.length : Int) != 0)
  | .byt y => y.size ≤ sizeLine ∧ k = ((y.size : Int) != 0)
  | .ref p => (∃ xs, SqL K H p xs ∧ k = !xs.isEmpty) ∨ (∃ xs, SqT K H p xs ∧ k = !xs.isEmpty) ∨ ∃ kvs, H p = some (.dK kvs) ∧ k = !kvs.isEmpty
  | _ => False
theorem isEmpty_kv {κ : Type} {kvs : List (κ × V)} {vs : List (κ × Value)} (r : KV kvs vs) : (!vs.isEmpty) = !kvs.isEmpty := by
  cases r <;> rfl
theorem isEmpty_of {xs : List V} {its : List Value} (r : Vals xs its) : (!its.toArray.isEmpty) = !xs.isEmpty := by
  cases r <;> simp
theorem line63 : (sizeLine : Nat) < 2 ^ 63 := by rw [sizeLine_eq]; decide
theorem tru_ok : TruR X (fun x H Q => ∃ k, TruV X.K x H k ∧ Q k H) := by
  intro pins s σ H x v Q I rx h
  obtain ⟨k, e, q⟩ := h
  have hl := line63
  have hs : sizeLine = 16777216 := sizeLine_eq
  cases x with
  | non =>
    cases rx
    have e' : k = false := e
    subst e'
    exact truthy_none ⟨H, I, q⟩
  | bl b =>
    cases rx
    have e' : k = b := e
    subst e'
    exact wpAny_truthy_bool ⟨H, I, q⟩
  | int i =>
    obtain ⟨t, rfl⟩ := rx
    have e' : k = (i != 0) := e
    subst e'
    exact PySem.P.truthy_int ⟨H, I, q⟩
  | str y =>
    obtain ⟨t, rfl⟩ := rx
    obtain ⟨hy, e'⟩ : y.length ≤ sizeLine ∧ k = ((y.length : Int) != 0) := e
    subst e'
    exact PySem.P.truthy_str (by lia) ⟨H, I.tok _, q⟩
  | byt y =>
    obtain ⟨t, rfl⟩ := rx
    obtain ⟨hy, e'⟩ : y.size ≤ sizeLine ∧ k = ((y.size : Int) != 0) := e
    subst e'
    exact PySem.W.truthy_bytes (by lia) ⟨H, I.tok _, q⟩
  | ref p =>
    cases rx
    have e' : (∃ xs, SqL X.K H p xs ∧ k = !xs.isEmpty) ∨ (∃ xs, SqT X.K H p xs ∧ k = !xs.isEmpty) ∨ ∃ kvs, H p = some (.dK kvs) ∧ k = !kvs.isEmpty := e
    rcases e' with ⟨xs, hx, e'⟩ | ⟨xs, hx, e'⟩ | ⟨kvs, hx, e'⟩
    · subst e'
      obtain ⟨its, r, pl, hz⟩ := I.list hx
      have hlen := r.length
      exact wpAny_truthy_list pl.isList (by simp only [List.size_toArray]; lia) ⟨H, I.tok _, by rw [isEmpty_of r]; exact q⟩
    · subst e'
      obtain ⟨its, r, pl, hz⟩ := I.tuple hx
      have hlen := r.length
      exact truthy_tuple pl (by simp only [List.size_toArray]; lia) ⟨H, I.tok _, by rw [isEmpty_of r]; exact q⟩
    · subst e'
      obtain ⟨hz, hS, vs, r, m⟩ : kvs.length ≤ sizeLine ∧ (p == sysModules) = false ∧ ∃ vs, KV kvs vs ∧ s.heap.DictOf (mixKind X.prog X.w) p vs := I.hok p _ hx
      have hlen : kvs.length = vs.length := Paired.length r
      exact wpAny_truthy_dict hS m (by lia) ⟨H, I.tok _, by rw [isEmpty_kv r]; exact q⟩
  | _ => exact (show False from e).elim
theorem pt_truth (ha : PE X a ta) (he : ∀ whole, isTrue a X.env whole = (do let v ← whole; standAt a.pos; holding [v] (truthy v))) :
    PT X a (fun σ H Q => ta σ H fun x H' => ∃ k, TruV X.K x H' k ∧ Q k H') := by
  intro pins s σ H Q I h
  exact isTrue_plain (thn (ha pins s σ H _ I h) fun v s1 ⟨x, H1, I1, r1, q1⟩ => tru_ok pins s1 σ H1 x v Q I1 r1 q1) (he _)
theorem vals1 {x : V} {us : List Value} (r : Vals [x] us) : ∃ u, us = [u] ∧ RelV x u := by
  cases r with
  | cons r1 r2 => cases r2; exact ⟨_, rfl, r1⟩
end
end L2
namespace L2
open PySem PySem.Spec PyProof.Rows
structure ObjM (h : Heap) (x dx C : Addr) (mA : Str → Option Value) : Prop where
  obj : h.get? x = some (PySem.W.instObj C dx)
  ns : h.Ns1 dx mA
  ne : dx ≠ x
theorem lookIn_ns {h : Heap} {dx : Addr} {mA : Str → Option Value} (n : h.Ns1 dx mA) : ∃ od, h.get? dx = some od ∧ ∀ name, PySem.W.lookIn name od = some (mA name) := by
  obtain ⟨o, es, ep, ho, hd, hk, _, hm⟩ := n
  refine ⟨o, ho, fun name => ?_⟩
  have e := hm name
  unfold nsFind findBy at e
  rw [← Array.find?_toList] at e
  unfold PySem.W.lookIn
  rw [hd]
  dsimp only
  split
  · rename_i y q
    rw [q] at e
    exact congrArg some e
  · rename_i q
    rw [q] at e
    have a : es.toList.any (·.refKey) = false := by
      rw [List.any_eq_false]
      intro y hy
      obtain ⟨z, t, hkey⟩ := hk y (Array.mem_toList_iff.mp hy)
      simp [DictEntry.refKey, hkey]
    have a' : ¬ es.toList.any (·.refKey) = true := by rw [a]; exact Bool.false_ne_true
    rw [if_neg a']
    exact congrArg some e
theorem ObjM.look {h : Heap} {x dx C : Addr} {mA : Str → Option Value} (I : ObjM h x dx C mA) : ∃ od, PySem.W.InstAt h x (PySem.W.instObj C dx) C (some od) ∧ ∀ name, PySem.W.lookIn name od = some (mA name) :=
  let ⟨od, ho, hl⟩ := lookIn_ns I.ns
  ⟨od, ⟨I.obj, rfl, rfl, ho⟩, hl⟩
section
variable {prog : Program} {w : World} {A : Around} {E : Value → Shared → Prop} {s : Shared} {K : PySem.W.Frag} {x dx C f : Addr} {mA : Str → Option Value} {name : Str} {v : Value}
theorem get_map {expr : Bool} {Q : Value → Shared → Prop} (X : K.In s.heap) (I : ObjM s.heap x dx C mA) (hg : PySem.W.plainGet K C name = true) (hh : PySem.W.hasDictIn K C = true)
    (ha : PySem.W.findIn K (.ref C) name = some none) (hv : mA name = some v) (hv' : PySem.W.handedIn v = true) (h : Q v { s with toks := s.toks + 1 }) :
    wpAny (model prog w) A (getAttr (.ref x) name expr) Q E s := by
  obtain ⟨od, J, hl⟩ := I.look
  exact PySem.W.get_value X J (PySem.W.plainGet_of hg).1 (PySem.W.findObj_own hh ha rfl (by rw [hl, hv])) hv' h
theorem set_map {ns : List Str} {Q : Unit → Shared → Prop} (X : K.In s.heap) (I : ObjM s.heap x dx C mA)
    (hs : PySem.W.findIn K (.ref C) "__setattr__" = some (some (.builtin "object.__setattr__"))) (hp : PySem.W.plainOver K C = true) (ht : PySem.W.takerIn K C name = some none) (hh : PySem.W.hasDictIn K C = true)
    (hw : PySem.Within mA ns) (hsz : ns.length ≤ sizeLine)
    (h : ∀ h', ObjM h' x dx C (fun y => if y = name then some v else mA y) → Heap.SameBut dx s.heap h' → Q () { s with heap := h', toks := s.toks + 2 }) :
    wpAny (model prog w) A (setAttr (.ref x) name v) Q E s := by
  obtain ⟨od, J, hl⟩ := I.look
  refine PySem.W.set_plain X J hs (PySem.W.osa_open (s := { s with toks := s.toks + 1 }) (r := none) X J hp ht fun b => ?_)
  obtain ⟨cd, hc, hd'⟩ := PySem.W.any_some hh
  have hx : s.heap.get? x = some ⟨.ref C, some dx, .plain, #[]⟩ := I.obj
  refine wpAny_bind (wpAny_pure (wpAny_bind (wpAny_bind (wpAny_loadPart hx (wpAny_bind (PySem.W.Looks.here (s := { s with toks := s.toks + 1 }) (PySem.W.looks_clsIn X hc) ?_))))))
  rw [hd']
  refine wpAny_pure (a := some dx) (wpAny_bind (wpAny_pure (wpAny_bind ?_)))
  refine wpAny_nsSet1 (s := { s with toks := s.toks + 1 }) I.ns fun h' hn2 hs2 => ?_
  obtain ⟨oD, esD, epD, hoD, hdD, hcD⟩ := hn2.count (PySem.Within.cons name v hw)
  refine wpAny_bind (wpAny_lookBehind hoD (by rw [hdD]; exact pastItsLine_dict (Nat.le_trans hcD (by rw [List.length_cons]; lia))) ?_)
  exact wpAny_pure (h _ ⟨(hs2.2 _ (Ne.symm I.ne)).trans I.obj, hn2, I.ne⟩ hs2)
theorem make_map {R : Result → Shared → Prop} {vs : List Value} {kw : List (Str × Value)} (X : K.In s.heap) (hm : PySem.W.makesIn K C = true)
    (hi : PySem.W.findIn K (.ref C) "__init__" = some (some (.ref f))) (hf : PySem.W.typeIn K (.ref f) = some (.type "function"))
    (h : codeAny (model prog w) (A.under (.builtin "type.__call__" ⟨.ref C :: vs, kw⟩)) (.call (.ref f) ⟨.ref (s.heap.objs.size + 1) :: vs, kw⟩) (PySem.W.InitBack (s.heap.objs.size + 1) R)
      { s with heap := (s.heap.push PySem.W.emptyDict).push (PySem.W.instObj C s.heap.objs.size) }) :
    codeAny (model prog w) A (.call (.ref C) ⟨vs, kw⟩) R s := by
  obtain ⟨hh, g, d, t, os⟩ := s
  exact PySem.W.make_core (PySem.W.makes_of X hm) (PySem.W.looks_findIn X hi) (fun self => PySem.W.bind_fn X self hf) (.inl rfl) h
end
noncomputable def putF (f : Str) (v : V) : List (Str × V) → List (Str × V)
  | [] => [(f, v)]
  | (g, x) :: r => if g = f then (g, v) :: r else (g, x) :: putF f v r
theorem lookup_putF (f g : Str) (v : V) : ∀ fs : List (Str × V), (putF f v fs).lookup g = if g = f then some v else fs.lookup g
  | [] => by
    show List.lookup g [(f, v)] = _
    by_cases h : g = f
    · have hb : (g == f) = true := beq_iff_eq.mpr h
      simp only [List.lookup, hb, if_pos h]
    · have hb : (g == f) = false := beq_eq_false_iff_ne.mpr h
      simp only [List.lookup, hb, if_neg h]
  | (k, x) :: r => by
    have ih := lookup_putF f g v r
    rw [show putF f v ((k, x) :: r) = (if k = f then (k, v) :: r else (k, x) :: putF f v r) from rfl]
    by_cases hk : k = f
    · rw [if_pos hk]
      by_cases h : g = k
      · have hb : (g == k) = true := beq_iff_eq.mpr h
        simp only [List.lookup, hb, if_pos (h.trans hk)]
      · have hb : (g == k) = false := beq_eq_false_iff_ne.mpr h
        simp only [List.lookup, hb, if_neg (fun e : g = f => h (e.trans hk.symm))]
    · rw [if_neg hk]
      by_cases h : g = k
      · have hb : (g == k) = true := beq_iff_eq.mpr h
        simp only [List.lookup, hb, if_neg (fun e : g = f => hk (h.symm.trans e))]
      · have hb : (g == k) = false := beq_eq_false_iff_ne.mpr h
        simp only [List.lookup, hb]
        exact ih
theorem keys_putF (f : Str) (v : V) : ∀ fs : List (Str × V), f ∈ (putF f v fs).map (·.1) ∧ ∀ g, g ∈ fs.map (·.1) → g ∈ (putF f v fs).map (·.1)
  | [] => ⟨by simp [putF], fun g h => by simp at h⟩
  | (k, x) :: r => by
    obtain ⟨i1, i2⟩ := keys_putF f v r
    rw [show putF f v ((k, x) :: r) = (if k = f then (k, v) :: r else (k, x) :: putF f v r) from rfl]
    by_cases hk : k = f
    · rw [if_pos hk]
      subst hk
      exact ⟨by simp, fun g h => by simpa using h⟩
    · rw [if_neg hk]
      refine ⟨?_, fun g h => ?_⟩
      · rw [List.map_cons]
        exact List.mem_cons_of_mem _ i1
      · rw [List.map_cons] at h ⊢
        rcases List.mem_cons.mp h with e | e
        · exact List.mem_cons.mpr (.inl e)
        · exact List.mem_cons_of_mem _ (i2 g e)
theorem length_putF (f : Str) (v : V) : ∀ fs : List (Str × V), (putF f v fs).length ≤ fs.length + 1
  | [] => by simp [putF]
  | (k, x) :: r => by
    have ih := length_putF f v r
    rw [show putF f v ((k, x) :: r) = (if k = f then (k, v) :: r else (k, x) :: putF f v r) from rfl]
    by_cases hk : k = f
    · rw [if_pos hk, List.length_cons, List.length_cons]; lia
    · rw [if_neg hk, List.length_cons, List.length_cons]; lia
theorem RelO.some_of {v : V} {o : Option Value} (r : RelO (some v) o) : ∃ u, o = some u ∧ RelV v u := by
  cases o with
  | none => exact (show False from r).elim
  | some u => exact ⟨u, rfl, r⟩
theorem handed_of {v : V} {u : Value} (r : RelV v u) : PySem.W.handedIn u = true := by
  cases v with
  | non => cases (show u = Value.none from r); rfl
  | bl b => cases (show u = Value.bool b from r); rfl
  | int i => obtain ⟨t, e⟩ := (show ∃ t, u = Value.int i t from r); cases e; rfl
  | str x => obtain ⟨t, e⟩ := (show ∃ t, u = Value.str x t from r); cases e; rfl
  | byt b => obtain ⟨t, e⟩ := (show ∃ t, u = Value.bytes b t from r); cases e; rfl
  | flt b => obtain ⟨t, e⟩ := (show ∃ t, u = Value.float b t from r); cases e; rfl
  | ref a => cases (show u = Value.ref a from r); rfl
  | ty n => cases (show u = Value.type n from r); rfl
section
variable {P : Program} {w : World} {H H' : Hp} {h h' : Heap} {a C dx : Addr} {fs fs' : List (Str × V)}
theorem ins_get (hok : HOk P w H h) (e : H a = some (.ins C dx fs)) : ∃ mA, ObjM h a dx C mA ∧ (∀ f, RelO (fs.lookup f) (mA f)) ∧ PySem.Within mA (fs.map (·.1)) ∧ fs.length ≤ 1000 ∧ H dx = some (.own a) := by
  obtain ⟨d, z, ne, ob, mA, n, r, q⟩ := (show ObjOk P w H h a (.ins C dx fs) from hok a _ e)
  exact ⟨mA, ⟨ob, n, ne⟩, r, q, z, d⟩
end
structure Cls (K : PySem.W.Frag) (C : Addr) : Prop where
  pg : PySem.W.plainGet K C Str.empty = true
  hd : PySem.W.hasDictIn K C = true
  po : PySem.W.plainOver K C = true
  sa : PySem.W.findIn K (.ref C) "__setattr__" = some (some (.builtin "object.__setattr__"))
theorem Cls.get {K : PySem.W.Frag} {C : Addr} (c : Cls K C) (f : Str) : PySem.W.plainGet K C f = true := c.pg
noncomputable def NoAttr (K : PySem.W.Frag) (C : Addr) (f : Str) : Prop := PySem.W.findIn K (.ref C) f = some none
theorem NoAttr.taker {K : PySem.W.Frag} {C : Addr} {f : Str} (n : NoAttr K C f) : PySem.W.takerIn K C f = some none := by
  unfold PySem.W.takerIn
  rw [show PySem.W.findIn K (.ref C) f = some none from n]
  rfl
section
variable {X : Cx} {pins : List (Addr × Obj)} {σ : St} {H : Hp} {s : Shared} {a C dx : Addr} {fs : List (Str × V)} {f : Str} {v : V} {A : Around} {E : Value → Shared → Prop}
theorem getattr_ok {b : Bool} {Q : Value → Shared → Prop} (I : Inv X pins σ H s) (e : H a = some (.ins C dx fs)) (c : Cls X.K C) (n : NoAttr X.K C f) (l : fs.lookup f = some v)
    (h : ∀ u s', Inv X pins σ H s' → RelV v u → Q u s') : wpAny (model X.prog X.w) A (getAttr (.ref a) f b) Q E s := by
  obtain ⟨mA, O, r, _, _, _⟩ := ins_get I.hok e
  obtain ⟨u, hu, ru⟩ := RelO.some_of (v := v) (o := mA f) (by rw [← l]; exact r f)
  exact get_map I.kIn O (c.get f) c.hd n hu (handed_of ru) (h u _ (I.tok _) ru)
theorem setattr_ok {y : V} {u : Value} {Q : Unit → Shared → Prop} (I : Inv X pins σ H s) (e : H a = some (.ins C dx fs)) (c : Cls X.K C) (n : NoAttr X.K C f) (hl : fs.length < 1000) (ry : RelV y u)
    (h : ∀ s', Inv X pins σ (upd H a (.ins C dx (putF f y fs))) s' → Q () s') : wpAny (model X.prog X.w) A (setAttr (.ref a) f u) Q E s := by
  obtain ⟨mA, O, r, wi, _, ho⟩ := ins_get I.hok e
  have hz : (fs.map (·.1)).length ≤ sizeLine := by rw [List.length_map, sizeLine_eq]; lia
  refine set_map I.kIn O c.sa c.po n.taker c.hd wi hz fun h' O' sb => h _ ?_
  have hd : ∃ o, h'.get? dx = some o := let ⟨o, _, _, e', _⟩ := O'.ns; ⟨o, e'⟩
  refine I.write (x := a) (e := dx) (by rw [e]; exact True.intro) (.inr ho) (fun b q hb z => (sb.2 b hb).trans z) hd ?_
  refine ⟨by rw [upd_ne O.ne]; exact ho, ?_, O.ne, O'.obj, _, O'.ns, fun g => ?_, fun g hg => ?_⟩
  · have := length_putF f y fs; lia
  · show RelO ((putF f y fs).lookup g) (if g = f then some u else mA g)
    rw [lookup_putF]
    by_cases q : g = f
    · rw [if_pos q, if_pos q]; exact ry
    · rw [if_neg q, if_neg q]; exact r g
  · by_cases q : g = f
    · rw [q]; exact (keys_putF f y fs).1
    · refine (keys_putF f y fs).2 g (wi g fun z => hg ?_)
      show (if g = f then some u else mA g) = none
      rw [if_neg q]; exact z
theorem Inv.made (I : Inv X pins σ H s) : Inv X pins σ (upd (upd H s.heap.objs.size (.own (s.heap.objs.size + 1))) (s.heap.objs.size + 1) (.ins C s.heap.objs.size []))
    { s with heap := (s.heap.push PySem.W.emptyDict).push (PySem.W.instObj C s.heap.objs.size) } := by
  have e1 : (s.heap.push PySem.W.emptyDict).get? s.heap.objs.size = some PySem.W.emptyDict := Heap.get?_push_size s.heap rfl
  have e2 : ((s.heap.push PySem.W.emptyDict).push (PySem.W.instObj C s.heap.objs.size)).get? (s.heap.objs.size + 1) = some (PySem.W.instObj C s.heap.objs.size) := by
    have := Heap.get?_push_size (s.heap.push PySem.W.emptyDict) (o := PySem.W.instObj C s.heap.objs.size) rfl
    rwa [Heap.size_push] at this
  have e3 : (s.heap.push PySem.W.emptyDict).Ns s.heap.objs.size (fun _ => none) := ⟨PySem.W.emptyDict, #[], _, e1, rfl, (fun e he => absurd he (by simp)), fun _ => rfl⟩
  have I1 := I.laid (a := s.heap.objs.size) (o := .own (s.heap.objs.size + 1)) (h' := s.heap.push PySem.W.emptyDict) (t' := s.toks) (fun b u q => Heap.get?_push_of_some _ q) (Nat.le_refl _) ⟨_, e1⟩
  refine I1.laid (a := s.heap.objs.size + 1) (o := .ins C s.heap.objs.size []) (t' := s.toks) (fun b u q => Heap.get?_push_of_some _ q) (Nat.le_of_eq (Heap.size_push _ _)) ?_
  have ne : s.heap.objs.size ≠ s.heap.objs.size + 1 := Nat.ne_of_lt (Nat.lt_succ_self _)
  refine ⟨by rw [upd_ne ne, upd_same], Nat.zero_le _, ne, e2, fun _ => none, (Heap.Ns1.of_empty e3).at fun o q => Heap.get?_push_of_some _ q, fun _ => True.intro, fun y hy => absurd rfl hy⟩
theorem attr_of {prog : Program} {w : World} {env : Env} {e : Expr} {f : Str} {pos : Pos} {s : Shared} {Q : Value → Shared → Prop} (hb : attributeBase e f env (eval e env) = eval e env)
    (h : wpAny (model prog w) A (eval e env) (fun o s₁ => wpAny (model prog w) A (getAttr o f true) Q E s₁) E s) : wpAny (model prog w) A (eval (.Attribute e f pos) env) Q E s :=
  Attribute_any_ h (by rw [arm_eval_Attribute, hb])
end
noncomputable def tFld (K : PySem.W.Frag) (ta : TE) (f : Str) : TE := fun σ H Q => ta σ H fun x H1 => ∃ a C dx fs v, x = .ref a ∧ H1 a = some (.ins C dx fs) ∧ Cls K C ∧ NoAttr K C f ∧ fs.lookup f = some v ∧ Q v H1
noncomputable def sFld (K : PySem.W.Frag) (ta tv : TE) (f : Str) : TS := fun D σ H => tv σ H fun y H1 => ta σ H1 fun x H2 => ∃ a C dx fs, x = .ref a ∧ H2 a = some (.ins C dx fs) ∧ Cls K C ∧ NoAttr K C f ∧ fs.length < 1000 ∧
  D.nx σ (upd H2 a (.ins C dx (putF f y fs)))
section
variable {X : Cx} {o e value : Expr} {f : Str} {pos pos' tpos : Pos} {ta tv : TE}
theorem pe_fld (he : PE X e ta) (hb : attributeBase e f X.env (eval e X.env) = eval e X.env) : PE X (.Attribute e f pos) (tFld X.K ta f) := by
  intro pins s σ H Q I h
  refine attr_of hb (thn (he pins s σ H _ I h) fun u s1 ⟨x, H1, I1, rx, a, C, dx, fs, v, ex, ea, c, n, l, q⟩ => ?_)
  subst ex
  obtain rfl : u = Value.ref a := rx
  exact getattr_ok I1 ea c n l fun u' s2 I2 ru => ⟨v, H1, I2, ru, q⟩
theorem ps_fld (ha : PE X o ta) (hv : PE X value tv) (hs : swapsWith value (some (.Attribute o f pos')) pos.line X.env = pure false) : PS X (.Assign [.Attribute o f pos'] value pos) (sFld X.K ta tv f) := by
  intro pins s σ H D I h
  refine plainObj_wpAny_Assign_Attribute (thn (hv pins s σ H _ I h) fun u s1 ⟨y, H1, I1, ry, q⟩ => thn (ha pins s1 σ H1 _ I1 q) fun ov s2 ⟨x, H2, I2, rx, a, C, dx, fs, ex, ea, c, n, l, q2⟩ => ?_) hs
  subst ex
  obtain rfl : ov = Value.ref a := rx
  exact setattr_ok I2 ea c n l ry fun s3 I3 => ⟨σ, _, I3, q2⟩
end
section
variable {X : Cx} {pins : List (Addr × Obj)} {σ : St} {H : Hp} {s : Shared} {A : Around} {E : Value → Shared → Prop} {Q : Value → Shared → Prop} {c : Value} {b : Bool}
inductive TyOf (K : PySem.W.Frag) (H : Hp) : V → Value → Prop where
  | non : TyOf K H .non (.type "NoneType")
  | bl (x : Bool) : TyOf K H (.bl x) (.type "bool")
  | int (i : Int) : TyOf K H (.int i) (.type "int")
  | str (x : Str) : TyOf K H (.str x) (.type "str")
  | flt (x : UInt64) : TyOf K H (.flt x) (.type "float")
  | lst {a : Addr} {xs : List V} (e : H a = some (.lst xs)) : TyOf K H (.ref a) (.type "list")
  | frz {a : Addr} {o : Obj} {xs : List V} (e : H a = some (.frz o (.lst xs))) : TyOf K H (.ref a) (.type "list")
  | tup {a : Addr} {xs : List V} (e : H a = some (.tup xs)) : TyOf K H (.ref a) (.type "tuple")
  | dK {a : Addr} {kvs : List (Key × V)} (e : H a = some (.dK kvs)) : TyOf K H (.ref a) (.type "dict")
  | dT {a : Addr} {kvs : List (List Key × V)} (e : H a = some (.dT kvs)) : TyOf K H (.ref a) (.type "dict")
  | ins {a C dx : Addr} {fs : List (Str × V)} (e : H a = some (.ins C dx fs)) (cl : Cls K C) (ha : PySem.W.findIn K (.ref C) "__class__" = some (some (.builtin "object.__class__")))
      (hn : PySem.W.specialIn K (.builtin "object.__class__") "__get__" = some (some (.builtin "getset_descriptor.__get__"))) (htk : PySem.W.takesIn K (.builtin "object.__class__") = some true)
      (hm : PySem.W.mroIn K C (.type "object") = some true) : TyOf K H (.ref a) (.ref C)
end
end L2
namespace L2
open PySem PySem.Spec PyProof.Rows
structure Room (k : Nat) (A : Around) : Prop where
  hd : A.handled = none
  dp : A.depth + 3 * k + 5 < recursionLimit
  un : A.units + 16 * k + 200 < cLine
theorem Room.mono {j k : Nat} {A : Around} (r : Room k A) (h : j ≤ k) : Room j A := ⟨r.hd, by have := r.dp; lia, by have := r.un; lia⟩
theorem Room.deeper {k : Nat} {A : Around} (r : Room (k + 1) A) (env : Env) : Room k (A.deeper env) :=
  ⟨r.hd, by have := r.dp; show A.depth + 1 + 3 * k + 5 < _; lia, by have := r.un; show A.units + 3 + 16 * k + 200 < _; lia⟩
theorem Room.in1 {k : Nat} {A : Around} (r : Room (k + 1) A) : Room k A.in1 :=
  ⟨r.hd, by have := r.dp; show A.depth + 3 * k + 5 < _; lia, by have := r.un; show A.units + 1 + 16 * k + 200 < _; lia⟩
theorem make_depth {A : Around} {C : Addr} {us : List Value} {kw : List (Str × Value)} : (A.under (.builtin "type.__call__" ⟨.ref C :: us, kw⟩)).depth = A.depth + 1 := by
  first | rfl | simp [Around.under, Code.weight, Code.isCreation, Code.isGuard, Code.isCaller, Code.frames, Code.isFrame, guardIds]
theorem make_units {A : Around} {C : Addr} {us : List Value} {kw : List (Str × Value)} : (A.under (.builtin "type.__call__" ⟨.ref C :: us, kw⟩)).units = A.units + 1 := by
  first | rfl | simp [Around.under, Code.cUnits, Code.frames, Code.isFrame]
theorem Room.make {k : Nat} {A : Around} (r : Room (k + 1) A) (C : Addr) (us : List Value) (kw : List (Str × Value)) : Room k (A.under (.builtin "type.__call__" ⟨.ref C :: us, kw⟩)) :=
  ⟨r.hd, by have := r.dp; rw [make_depth]; lia, by have := r.un; rw [make_units]; lia⟩
theorem Room.depth {k : Nat} {A : Around} (r : Room k A) : A.depth < recursionLimit := by have := r.dp; lia
theorem Room.units {k : Nat} {A : Around} (r : Room k A) : A.units + 64 < cLine := by have := r.un; lia
noncomputable def tNil : TA := fun _ H Q => Q [] H
noncomputable def tCons (ta : TE) (tr : TA) : TA := fun σ H Q => ta σ H fun x H1 => tr σ H1 fun xs H2 => Q (x :: xs) H2
section
variable {X : Cx} {e : Expr} {es : List Expr} {te : TE} {t : TA} {pos : Pos}
theorem pa_nil : PA X [] tNil := fun _ _ _ _ H Q I h => Calls.spliced_nil ⟨[], H, I, .nil, h⟩
theorem pa_cons (ha : PE X e te) (hr : PA X es t) (hs : starEach (e :: es) X.env = (false, eval e X.env) :: starEach es X.env := by rfl) : PA X (e :: es) (tCons te t) := by
  intro pos pins s σ H Q I h
  rw [hs]
  show wpAny _ _ (spliced ((false, eval e X.env) :: backTo pos (starEach es X.env))) _ _ s
  refine Calls.spliced_cons (thn (ha pins s σ H _ I h) fun u s1 ⟨x, H1, I1, r1, q1⟩ => ?_)
  exact thn (hr pos pins s1 σ H1 _ I1 q1) fun us s2 ⟨xs, H2, I2, r2, q2⟩ => ⟨x :: xs, H2, I2, .cons r1 r2, q2⟩
noncomputable def tTup (t : TA) : TE := fun σ H Q => t σ H fun xs H1 => xs.length ≤ sizeLine ∧ ∀ p, H1 p = none → Q (.ref p) (upd H1 p (.tup xs))
noncomputable def tLst (t : TA) : TE := fun σ H Q => t σ H fun xs H1 => xs.length ≤ sizeLine ∧ ∀ p, H1 p = none → Q (.ref p) (upd H1 p (.lst xs))
theorem pe_tup {x1} (h : PA X es t) : PE X (.Tuple es x1 pos) (tTup t) := by
  intro pins s σ H Q I hq
  refine wpAny_Tuple_spliced (thn (h pos pins s σ H _ I hq) fun us s1 ⟨xs, H1, I1, r, z, q⟩ => ⟨by rw [← r.length]; exact z, ?_⟩)
  have hf : H1 s1.heap.objs.size = none := I1.hok.fresh (Nat.le_refl _)
  refine ⟨.ref s1.heap.objs.size, upd H1 s1.heap.objs.size (.tup xs), I1.laid (t' := s1.toks) (fun b u e => Heap.get?_push_of_some _ e) (Nat.le_refl _) ?_, rfl, q _ hf⟩
  exact ⟨z, us, r, ⟨_, Heap.get?_push_size _ rfl, rfl, _, rfl⟩⟩
theorem pe_lst (h : PA X es t) : PE X (.List es pos) (tLst t) := by
  intro pins s σ H Q I hq
  refine wpAny_List_spliced (thn (h pos pins s σ H _ I hq) fun us s1 ⟨xs, H1, I1, r, z, q⟩ => ⟨by rw [← r.length]; exact z, ?_⟩)
  have hf : H1 s1.heap.objs.size = none := I1.hok.fresh (Nat.le_refl _)
  refine ⟨.ref s1.heap.objs.size, upd H1 s1.heap.objs.size (.lst xs), I1.laid (t' := s1.toks) (fun b u e => Heap.get?_push_of_some _ e) (Nat.le_refl _) ?_, rfl, q _ hf⟩
  exact ⟨z, us, 0, r, Heap.get?_push_size _ rfl⟩
end
noncomputable abbrev Sp := List V → Hp → VK → XK → Prop
noncomputable abbrev CXT := List Env → Hp → Shared → XK → Value → Shared → Prop
structure Env0 (P : Program) (w : World) (K : PySem.W.Frag) (mg : Str → Option Value) (base : Heap) (A : Around) (outer : List Env) (s : Shared) (H : Hp) : Prop where
  frames : A.frames = some outer
  mod : Mod K mg base
  bs : ∀ b o, base.get? b = some o → s.heap.get? b = some o ∧ H b = none
  bsz : base.objs.size ≤ s.heap.objs.size
  funs : s.heap.FunFrames base outer
  frf : ∀ b ∈ frs outer, H b = none
  hok : HOk P w H s.heap
  bare : AllBare s.gens
noncomputable def CE (outer : List Env) (P : Program) (w : World) (H : Hp) (s : Shared) (Q : VK) (u : Value) (s' : Shared) : Prop :=
  ∃ v H', s'.os = s.os ∧ AllBare s'.gens ∧ Un (frs outer) [] H H' s.heap s'.heap ∧ HOk P w H' s'.heap ∧ RelV v u ∧ Q v H'
noncomputable def CR (CX : CXT) (outer : List Env) (P : Program) (w : World) (H : Hp) (s : Shared) (Q : VK) (E : XK) (r : Result) (s' : Shared) : Prop :=
  match r with
  | .ok (.ret u) => CE outer P w H s Q u s'
  | .ok _ => False
  | .error e => CX outer H s E e s'
structure FnOk (P : Program) (w : World) (K : PySem.W.Frag) (mg : Str → Option Value) (base : Heap) (CX : CXT) (k : Nat) (f : Addr) (fd : FuncData) (ps : List Str) (sp : Sp) : Prop where
  len : ∀ vs H Q E, sp vs H Q E → vs.length = ps.length
  run : ∀ (A : Around) (outer : List Env) (s : Shared) (H : Hp) (args : Args) (us : List Value) (vs : List V) (Q : VK) (E : XK), Room k A → Env0 P w K mg base A outer s H → BindsTo s fd args (ps.zip us) → Vals vs us → sp vs H Q E →
    codeAny (model P w) A (.call (.ref f) args) (CR CX outer P w H s Q E) s
theorem FnOk.mono {P : Program} {w : World} {K : PySem.W.Frag} {mg : Str → Option Value} {base : Heap} {CX : CXT} {j k : Nat} {f : Addr} {fd : FuncData} {ps : List Str} {sp : Sp} (F : FnOk P w K mg base CX j f fd ps sp) (h : j ≤ k) :
    FnOk P w K mg base CX k f fd ps sp := ⟨F.len, fun A outer s H args us vs Q E hr => F.run A outer s H args us vs Q E (hr.mono h)⟩
theorem FnOk.imp {P : Program} {w : World} {K : PySem.W.Frag} {mg : Str → Option Value} {base : Heap} {CX : CXT} {k : Nat} {f : Addr} {fd : FuncData} {ps : List Str} {sp sp' : Sp} (F : FnOk P w K mg base CX k f fd ps sp)
    (h : ∀ vs H Q E, sp' vs H Q E → sp vs H Q E) : FnOk P w K mg base CX k f fd ps sp' :=
  ⟨fun vs H Q E q => F.len vs H Q E (h _ _ _ _ q), fun A outer s H args us vs Q E hr he hb hv hs => F.run A outer s H args us vs Q E hr he hb hv (h _ _ _ _ hs)⟩
theorem Env0.make {P : Program} {w : World} {K : PySem.W.Frag} {mg : Str → Option Value} {base : Heap} {A : Around} {outer : List Env} {s : Shared} {H : Hp} (e : Env0 P w K mg base A outer s H) (C : Addr) (us : List Value) (kw : List (Str × Value)) :
    Env0 P w K mg base (A.under (.builtin "type.__call__" ⟨.ref C :: us, kw⟩)) outer s H := ⟨by first | exact e.frames | (simpa [Around.under, Code.envs, Code.isFrame, pushEnvs] using e.frames), e.mod, e.bs, e.bsz, e.funs, e.frf, e.hok, e.bare⟩
theorem Env0.in1 {P : Program} {w : World} {K : PySem.W.Frag} {mg : Str → Option Value} {base : Heap} {A : Around} {outer : List Env} {s : Shared} {H : Hp} (e : Env0 P w K mg base A outer s H) :
    Env0 P w K mg base A.in1 outer s H := ⟨e.frames, e.mod, e.bs, e.bsz, e.funs, e.frf, e.hok, e.bare⟩
section
variable {X : Cx} {pins : List (Addr × Obj)} {σ : St} {H : Hp} {s s' : Shared}
theorem Inv.env0 (I : Inv X pins σ H s) : Env0 X.prog X.w X.K X.mg X.base X.A X.stack s H :=
  ⟨I.ok.frames, I.ok.mod, I.bs, Nat.le_trans I.ok.bsz I.sz, I.stack, I.stkFree, I.hok, I.bare⟩
theorem Inv.after {Q : VK} {u : Value} (I : Inv X pins σ H s) (h : CE X.stack X.prog X.w H s Q u s') : EP X pins σ Q u s' := by
  obtain ⟨v, H', os, bare, un, hok, r, q⟩ := h
  obtain ⟨hh, g, d, t, os'⟩ := s'
  obtain rfl : os' = s.os := os
  exact ⟨v, H', I.call (h' := hh) (g' := g) (d' := d) (t' := t) (ch := []) un hok bare (fun b z => absurd z (by simp)), r, q⟩
end
noncomputable def tCall (sp : Sp) (dvs : List V) (E : XK) (t : TA) : TE := fun σ H Q => t σ H fun vs H1 => sp (vs ++ dvs) H1 Q E
noncomputable def tMake (C : Addr) (sp : Sp) (dvs : List V) (E : XK) (t : TA) : TE := fun σ H Q => t σ H fun vs H1 => ∀ x dx, H1 x = none → H1 dx = none → dx ≠ x →
  sp (.ref x :: (vs ++ dvs)) (upd (upd H1 dx (.own x)) x (.ins C dx [])) (fun v H2 => v = .non ∧ Q (.ref x) H2) E
noncomputable def Binds (K : PySem.W.Frag) (fd : FuncData) (ps : List Str) (ds : List Value) : Prop :=
  ∀ (s : Shared) (us : List Value), K.In s.heap → (us ++ ds).length = ps.length → BindsTo s fd ⟨us, []⟩ (ps.zip (us ++ ds))
theorem Binds.all {K : PySem.W.Frag} {fd : FuncData} {ps : List Str} (h : ∀ us : List Value, us.length = ps.length → bindArgs fd ⟨us, []⟩ = pure (ps.zip us)) : Binds K fd ps [] := fun s us _ hl => by
  rw [List.append_nil] at hl ⊢
  exact .of_eq (h us hl)
noncomputable def Passes (CX : CXT) (X : Cx) (E : XK) : Prop := ∀ (pins : List (Addr × Obj)) (σ : St) (H : Hp) (s : Shared) (e : Value) (s' : Shared), Inv X pins σ H s → CX X.stack H s E e s' → X.xe e s'
section
variable {X : Cx} {CX : CXT} {k : Nat} {f C : Addr} {fd : FuncData} {ps : List Str} {sp : Sp} {dvs : List V} {ds : List Value} {E : XK} {x m : Str} {p pos apos : Pos} {e o : Expr} {es : List Expr} {ta : TE} {t : TA}
theorem run_fn {pins : List (Addr × Obj)} {σ : St} {H : Hp} {s : Shared} {Q : VK} {us : List Value} {vs : List V} (F : FnOk X.prog X.w X.K X.mg X.base CX k f fd ps sp) (hr : Room k X.A) (hb : Binds X.K fd ps ds) (hd : Vals dvs ds) (hx : Passes CX X E)
    (I : Inv X pins σ H s) (r : Vals vs us) (h : sp (vs ++ dvs) H Q E) : wpAny (model X.prog X.w) X.A (call (.ref f) us) (EP X pins σ Q) X.xe s := by
  have r2 : Vals (vs ++ dvs) (us ++ ds) := r.append hd
  have hl : (us ++ ds).length = ps.length := by rw [← r2.length]; exact F.len _ _ _ _ h
  refine wpAny_call (codeAny_mono (F.run X.A X.stack s H ⟨us, []⟩ (us ++ ds) (vs ++ dvs) Q E hr I.env0 (hb s us I.kIn hl) r2 h) fun r s' hq => ?_)
  cases r with
  | error e => exact hx pins σ H s e s' I hq
  | ok fl =>
    cases fl with
    | ret u => exact I.after hq
    | next => exact False.elim hq
    | brk => exact False.elim hq
    | cont => exact False.elim hq
theorem pe_call (F : FnOk X.prog X.w X.K X.mg X.base CX k f fd ps sp) (hr : Room k X.A) (hg : Gl X x) (hm : X.mg x = some (.ref f)) (hk : PySem.W.keepIn X.K (.ref f) = true) (hb : Binds X.K fd ps ds) (hd : Vals dvs ds) (hx : Passes CX X E)
    (ha : PA X (e :: es) t) (hdb : (x == ("__debug__" : Str)) = false := by decide) (he : starEach (e :: es) X.env = (false, eval e X.env) :: starEach es X.env := by rfl) (hpl : (backTo pos (starEach es X.env)).any (·.1) = false := by rfl) :
    PE X (.Call (.Name x p) (e :: es) [] pos) (tCall sp dvs E t) := by
  intro pins s σ H Q I h
  refine wpAny_Call_Name_kw (ld_glob I hg hm ?_ hdb)
  refine PySem.W.callWith_K (h₀ := X.base) I.ok.mod.kin hk (thn (ha pos pins s σ H _ I h) fun us s1 ⟨vs, H1, I1, r, q⟩ => ⟨I1.kIn, ?_⟩) he hpl
  exact run_fn F hr hb hd hx I1 r q
structure Mk (K : PySem.W.Frag) (C f : Addr) : Prop where
  makes : PySem.W.makesIn K C = true
  init : PySem.W.findIn K (.ref C) "__init__" = some (some (.ref f))
  fn : PySem.W.isFn K (.ref f) = true
  kp : PySem.W.keepIn K (.ref C) = true
theorem run_make {pins : List (Addr × Obj)} {σ : St} {H : Hp} {s : Shared} {Q : VK} {us : List Value} {vs : List V} (M : Mk X.K C f) (F : FnOk X.prog X.w X.K X.mg X.base CX k f fd ps sp) (hr : Room (k + 1) X.A) (hb : Binds X.K fd ps ds) (hd : Vals dvs ds)
    (hx : Passes CX X E) (I : Inv X pins σ H s) (r : Vals vs us)
    (h : ∀ x dx, H x = none → H dx = none → dx ≠ x → sp (.ref x :: (vs ++ dvs)) (upd (upd H dx (.own x)) x (.ins C dx [])) (fun v H2 => v = .non ∧ Q (.ref x) H2) E) :
    wpAny (model X.prog X.w) X.A (call (.ref C) us) (EP X pins σ Q) X.xe s := by
  have hq := h (s.heap.objs.size + 1) s.heap.objs.size (I.hok.fresh (Nat.le_succ _)) (I.hok.fresh (Nat.le_refl _)) (Nat.ne_of_lt (Nat.lt_succ_self _))
  have I2 := Inv.made (C := C) I
  have r2 : Vals (V.ref (s.heap.objs.size + 1) :: (vs ++ dvs)) (Value.ref (s.heap.objs.size + 1) :: (us ++ ds)) := .cons rfl (r.append hd)
  have hl : (Value.ref (s.heap.objs.size + 1) :: us ++ ds).length = ps.length := by
    have e := r2.length
    rw [F.len _ _ _ _ hq] at e
    exact e.symm
  refine wpAny_call (make_map (f := f) I.kIn M.makes M.init (beq_iff_eq.mp M.fn) (codeAny_mono (F.run _ X.stack _ _ ⟨Value.ref (s.heap.objs.size + 1) :: us, []⟩ (Value.ref (s.heap.objs.size + 1) :: (us ++ ds)) _ _ E (hr.make C us [])
    (I2.env0.make C us []) (hb _ (Value.ref (s.heap.objs.size + 1) :: us) I2.kIn hl) r2 hq) fun r s' hq' => ?_))
  cases r with
  | error e => exact hx pins σ _ _ e s' I2 hq'
  | ok fl =>
    cases fl with
    | ret u =>
      obtain ⟨v, H', I3, rv, ev, q3⟩ := I2.after hq'
      subst ev
      exact ⟨rv, ⟨V.ref (s.heap.objs.size + 1), H', I3, rfl, q3⟩⟩
    | next => exact False.elim hq'
    | brk => exact False.elim hq'
    | cont => exact False.elim hq'
theorem pe_make (M : Mk X.K C f) (F : FnOk X.prog X.w X.K X.mg X.base CX k f fd ps sp) (hr : Room (k + 1) X.A) (hg : Gl X x) (hm : X.mg x = some (.ref C)) (hb : Binds X.K fd ps ds) (hd : Vals dvs ds) (hx : Passes CX X E)
    (ha : PA X (e :: es) t) (hdb : (x == ("__debug__" : Str)) = false := by decide) (he : starEach (e :: es) X.env = (false, eval e X.env) :: starEach es X.env := by rfl) (hpl : (backTo pos (starEach es X.env)).any (·.1) = false := by rfl) :
    PE X (.Call (.Name x p) (e :: es) [] pos) (tMake C sp dvs E t) := by
  intro pins s σ H Q I h
  refine wpAny_Call_Name_kw (ld_glob I hg hm ?_ hdb)
  refine PySem.W.callWith_K (h₀ := X.base) I.ok.mod.kin M.kp (thn (ha pos pins s σ H _ I h) fun us s1 ⟨vs, H1, I1, r, q⟩ => ⟨I1.kIn, ?_⟩) he hpl
  exact run_make M F hr hb hd hx I1 r q
end
section
variable {X : Cx} {CX : CXT} {k : Nat} {f C : Addr} {fd : FuncData} {ps ks : List Str} {sp : Sp} {E : XK} {x m : Str} {p pos apos kpos : Pos} {e o : Expr} {es : List Expr} {kws : List Keyword} {te ta : TE} {t tk : TA} {nm : Option Str}
variable {g : List Value → List Value → List Value} {gV : List V → List V → List V}
end
structure FnScope (N P : List Str) (sc : Scope) : Prop where
  kind : sc.kind = .function
  co : sc.isCoroutine = false
  gen : sc.isGenerator = false
  nd : N.Nodup
  pre : N.take P.length = P
  par : ∀ x ∈ P, sc.names.lookup x = some .local ∨ sc.names.lookup x = some .cell
  nofree : ∀ y ∈ sc.names, y.2 ≠ .free
theorem bindL_out {kindOf : Str → Option NameKind} {x : Str} : ∀ {binds : List (Str × Value)} {m : Str → Option Value}, (∀ v, (x, v) ∉ binds) → bindL kindOf binds m x = m x
  | [], _, _ => rfl
  | (n, v) :: r, m, h => by
    unfold bindL
    rw [bindL_out fun w hw => h w (List.mem_cons_of_mem _ hw)]
    split
    · have : x ≠ n := by rintro rfl; exact h v List.mem_cons_self
      simp [this]
    · rfl
theorem bindC_out {kindOf : Str → Option NameKind} {x : Str} : ∀ {binds : List (Str × Value)} {m : Str → Option Value}, (∀ v, (x, v) ∉ binds) → bindC kindOf binds m x = m x
  | [], _, _ => rfl
  | (n, v) :: r, m, h => by
    unfold bindC
    rw [bindC_out fun w hw => h w (List.mem_cons_of_mem _ hw)]
    split
    · rfl
    · have : x ≠ n := by rintro rfl; exact h v List.mem_cons_self
      simp [this]
theorem bindL_get {kindOf : Str → Option NameKind} {x : Str} {v : Value} : ∀ {P : List Str} {vs : List Value} {i : Nat} {m : Str → Option Value}, P.Nodup → P[i]? = some x → vs[i]? = some v → kindOf x = some .local →
    bindL kindOf (P.zip vs) m x = some v
  | [], _, _, _, _, h, _, _ => by simp at h
  | _ :: _, [], _, _, _, _, h, _ => by simp at h
  | p :: P, w :: vs, 0, m, nd, h1, h2, hk => by
    simp at h1 h2; subst h1; subst h2
    show bindL kindOf ((p, w) :: P.zip vs) m p = _
    unfold bindL
    rw [bindL_out fun v hv => (List.nodup_cons.mp nd).1 (List.of_mem_zip hv).1, if_pos hk]
    simp
  | p :: P, w :: vs, i + 1, m, nd, h1, h2, hk => by
    show bindL kindOf ((p, w) :: P.zip vs) m x = _
    unfold bindL
    exact bindL_get (i := i) (List.nodup_cons.mp nd).2 (by simpa using h1) (by simpa using h2) hk
theorem bindC_get {kindOf : Str → Option NameKind} {x : Str} {v : Value} : ∀ {P : List Str} {vs : List Value} {i : Nat} {m : Str → Option Value}, P.Nodup → P[i]? = some x → vs[i]? = some v → kindOf x ≠ some .local →
    bindC kindOf (P.zip vs) m x = some v
  | [], _, _, _, _, h, _, _ => by simp at h
  | _ :: _, [], _, _, _, _, h, _ => by simp at h
  | p :: P, w :: vs, 0, m, nd, h1, h2, hk => by
    simp at h1 h2; subst h1; subst h2
    show bindC kindOf ((p, w) :: P.zip vs) m p = _
    unfold bindC
    rw [bindC_out fun v hv => (List.nodup_cons.mp nd).1 (List.of_mem_zip hv).1, if_neg hk]
    simp
  | p :: P, w :: vs, i + 1, m, nd, h1, h2, hk => by
    show bindC kindOf ((p, w) :: P.zip vs) m x = _
    unfold bindC
    exact bindC_get (i := i) (List.nodup_cons.mp nd).2 (by simpa using h1) (by simpa using h2) hk
noncomputable def start (N : List Str) (vs : List V) : St := vs.map some ++ List.replicate (N.length - vs.length) none
noncomputable def cxOf (CX : CXT) (P : Program) (w : World) (K : PySem.W.Frag) (mg : Str → Option Value) (base : Heap) (N : List Str) (qual : Str) (scope : Scope) (f : Addr) (cd : Value) (A : Around) (outer : List Env) (s : Shared) (H : Hp) (E : XK) : Cx where
  prog := P
  w := w
  K := K
  mg := mg
  base := base
  A := A.deeper (envOfC qual scope s.heap.objs.size f cd)
  N := N
  s₀ := s
  H₀ := H
  env := envOfC qual scope s.heap.objs.size f cd
  outer := outer
  stack := envOfC qual scope s.heap.objs.size f cd :: outer
  ex := []
  calm := true
  fn := fun _ => true
  pn := []
  xe := fun e s' => wpAny (model P w) (A.deeper (envOfC qual scope s.heap.objs.size f cd)) (leaving (envOfC qual scope s.heap.objs.size f cd) e) (fun _ s'' => CX outer H s E e s'') (fun e' s'' => CX outer H s E e' s'') s'
theorem cell_has {sc : Scope} {n : Nat} {x : Str} (h : sc.names.lookup x = some .cell) : ∃ c, (cellsFrom n sc.names []).lookup x = some c := by
  have q := PySem.W.cellsFrom_some sc.names n [] (.inl h)
  exact Option.isSome_iff_exists.mp q
theorem inv_start {CX : CXT} {P : Program} {w : World} {K : PySem.W.Frag} {mg : Str → Option Value} {base : Heap} {N ps : List Str} {qual : Str} {scope : Scope} {f : Addr} {cd : Value} {A : Around} {outer : List Env} {s s1 : Shared} {H : Hp} {E : XK} {us : List Value} {vs : List V}
    (S : FnScope N ps scope) (hd : A.handled = none) (e0 : Env0 P w K mg base A outer s H) (hl : vs.length = ps.length) (r : Vals vs us)
    (x : InCallC s s.heap.objs.size (bindL (envOfC qual scope s.heap.objs.size f cd).kindOf (ps.zip us) fun _ => none) (cellsFrom (s.heap.objs.size + 1) scope.names []) (bindC (envOfC qual scope s.heap.objs.size f cd).kindOf (ps.zip us) fun _ => none) s1) :
    Inv (cxOf CX P w K mg base N qual scope f cd A outer s H E) [] (start N vs) H s1 := by
  have hpl : ps.length ≤ N.length := by have := congrArg List.length S.pre; rw [List.length_take] at this; lia
  obtain ⟨h1, tk, rfl, hk⟩ := x.done
  have noA : ∀ b : Addr, b ∉ (cxOf CX P w K mg base N qual scope f cd A outer s H E).ex := fun b z => absurd (show b ∈ ([] : List Addr) from z) (by simp)
  refine ⟨⟨e0.mod, S.kind, rfl, rfl, Nat.le_refl _, fun y z c h1 h2 => ?_, fun y hy => ?_, fun y c _ h => ?_, fun _ => hd, Around.frames_deeper e0.frames, .inr ⟨rfl, rfl⟩, fun b z => absurd z (noA b), e0.bs, e0.bsz, fun b _ _ => noA b, fun b z => absurd z (noA b), e0.funs, e0.frf⟩,
    rfl, e0.bare, Un.kept hk, ⟨_, x.toInCall.ns, fun i y v h1 h2 h3 => ?_⟩, fun y c h => ⟨_, x.cell y c h⟩, e0.hok.fresh (Nat.le_refl _), fun y c h => ?_, fun p hp => absurd (show p ∈ ([] : List (Addr × Obj)) from hp) (by simp), e0.hok.kept hk, ?_⟩
  · exact name_of_addr x.apart (PySem.mem_of_lookup h1) (PySem.mem_of_lookup h2)
  · have hy : scope.names.lookup y = some .cell ∨ scope.names.lookup y = some .free := hy
    rcases hy with hy | hy
    · exact cell_has hy
    · exact absurd rfl (S.nofree _ (PySem.mem_of_lookup hy))
  · exact Nat.le_of_lt (x.above y c (PySem.mem_of_lookup h))
  · have hi : i < vs.length := by
      unfold start at h2
      by_cases hi : i < vs.length
      · exact hi
      · rw [List.getElem?_append_right (by simpa using hi)] at h2
        rw [List.getElem?_replicate] at h2
        split at h2 <;> cases h2
    have ha : vs[i]? = some v := by
      unfold start at h2
      rw [List.getElem?_append_left (by simpa using hi), List.getElem?_map] at h2
      cases e : vs[i]? with
      | none => rw [e] at h2; cases h2
      | some a => rw [e] at h2; cases h2; rfl
    obtain ⟨u, hu, rv⟩ := r.get ha
    have hp : ps[i]? = some y := by
      rw [← S.pre, List.getElem?_take_of_lt (by lia)]; exact h1
    have ndP : ps.Nodup := by rw [← S.pre]; exact S.nd.sublist (List.take_sublist _ _)
    refine ⟨u, rv, ?_⟩
    rcases S.par y (List.mem_of_getElem? hp) with k | k
    · exact .inl ⟨k, bindL_get ndP hp hu k⟩
    · obtain ⟨c, e⟩ := cell_has (n := s.heap.objs.size + 1) k
      refine .inr ⟨.inl k, c, e, ?_⟩
      have q := x.cell y c e
      rw [bindC_get ndP hp hu (by show scope.names.lookup y ≠ _; rw [k]; decide)] at q
      exact q
  · exact e0.hok.fresh (Nat.le_of_lt (x.above y c (PySem.mem_of_lookup h)))
  · unfold start
    show _ = N.length
    rw [List.length_append, List.length_map, List.length_replicate]
    lia
theorem fn_of {CX : CXT} {P : Program} {w : World} {K : PySem.W.Frag} {mg : Str → Option Value} {base : Heap} {k : Nat} {f : Addr} {name qual : Str} {params : Arguments} {body : List Stmt} {scope : Scope} {dV kV doc pm cdv ct oc : Value} {an od : Option Addr}
    {osl : Array (Option Value)} {N ps : List Str} {sp : Sp} (lk : K.lookup f = some ⟨oc, od, .func (PySem.W.fnOf name qual params body scope dV kV doc pm an cdv ct), osl⟩) (hcd : PySem.W.codeIn K cdv qual = true) (S : FnScope N ps scope)
    (len : ∀ vs H Q E, sp vs H Q E → vs.length = ps.length)
    (hbody : ∀ (A : Around) (outer : List Env) (s : Shared) (H : Hp) (vs : List V) (Q : VK) (E : XK), Room k (A.deeper (envOfC qual scope s.heap.objs.size f cdv)) → sp vs H Q E →
      ∃ t, PSs (cxOf CX P w K mg base N qual scope f cdv A outer s H E) body t ∧ t { nx := fun _ H' => Q .non H', rt := Q } (start N vs) H) :
    FnOk P w K mg base CX (k + 1) f (PySem.W.fnOf name qual params body scope dV kV doc pm an cdv ct) ps sp := by
  refine ⟨len, fun A outer s H args us vs Q E hr e0 hb r hsp => ?_⟩
  have hl := len _ _ _ _ hsp
  have KX : K.In s.heap := e0.mod.kin.keeps fun b o e => (e0.bs b o e).1
  have lim : s.heap.NoLimit := e0.mod.nolimit.keeps fun b o e => (e0.bs b o e).1
  have hkind : ∀ y ∈ ps.zip us, scope.names.lookup y.1 = some .local ∨ (scope.names.lookup y.1 = some .cell ∧ ((cellsFrom (s.heap.objs.size + 1) scope.names []).lookup y.1).isSome = true) := fun ⟨n, v⟩ hy => by
    rcases S.par n (List.of_mem_zip hy).1 with q | q
    · exact .inl q
    · exact .inr ⟨q, PySem.W.cellsFrom_some _ _ _ (.inl q)⟩
  refine codeAny_call_function hr.depth (KX _ _ lk) rfl S.co S.gen rfl (PySem.W.codeRec_of KX hcd) (hb _ _ _ _ ?_)
  refine wpAny_newFunctionEnv_cells S.kind hkind fun env he s1 x => ?_
  subst he
  refine ⟨lim.keeps x.toInCall.keep, codeAny_func ?_⟩
  obtain ⟨t, ht, hq⟩ := hbody A outer s H vs Q E (hr.deeper _) hsp
  have I : Inv (cxOf CX P w K mg base N qual scope f cdv A outer s H E) [] (start N vs) H s1 := inv_start S hr.hd e0 hl r x
  refine wpAny_mono (ht [] s1 (start N vs) H _ I hq) (fun fl s' hs => ?_) fun e s' hs => hs
  have fin : ∀ {σ' : St} {H' : Hp} {v : V} {u : Value}, Inv (cxOf CX P w K mg base N qual scope f cdv A outer s H E) [] σ' H' s' → RelV v u → Q v H' → CE outer P w H s Q u s' :=
    fun {σ' H' v u} J rv q => ⟨v, H', J.os, J.bare, J.base, J.hok, rv, q⟩
  cases fl with
  | ret u =>
    obtain ⟨v, σ', H', J, rv, q⟩ := hs
    exact fin J rv q
  | next =>
    obtain ⟨σ', H', J, q⟩ := hs
    exact fin (v := V.non) (u := Value.none) J rfl q
  | brk =>
    obtain ⟨_, _, _, q⟩ := hs
    exact False.elim q
  | cont =>
    obtain ⟨_, _, _, q⟩ := hs
    exact False.elim q
end L2
namespace L2
open PySem PySem.Spec PyProof.Rows
section
variable {X : Cx} {x : Str} {p pos : Pos} {e : Expr} {es : List Expr} {t : TA} {id T : String} {r : List V → Hp → VK → Prop}
noncomputable def tCB (r : List V → Hp → VK → Prop) (t : TA) : TE := fun σ H Q => t σ H fun vs H1 => r vs H1 Q
theorem pe_callB (hc : CallR X (.builtin id) r) (hg : Gl X x) (hm : X.mg x = none) (hv : bootBuiltins x = some (.builtin id)) (ha : PA X (e :: es) t) (hn : x ≠ "__name__" := by decide) (hdb : (x == ("__debug__" : Str)) = false := by decide)
    (he : starEach (e :: es) X.env = (false, eval e X.env) :: starEach es X.env := by rfl) (hpl : (backTo pos (starEach es X.env)).any (·.1) = false := by rfl) : PE X (.Call (.Name x p) (e :: es) [] pos) (tCB r t) := by
  intro pins s σ H Q I h
  refine wpAny_Call_Name_kw (ld_blt I hg hm hv ?_ hn hdb)
  exact PyProof.Rows.callWith_builtin1 (thn (ha pos pins s σ H _ I h) fun us s1 ⟨vs, H1, I1, r1, q1⟩ => hc pins s1 σ H1 vs us Q I1 r1 q1) he hpl
theorem pe_callTy (hc : CallR X (.type T) r) (hg : Gl X x) (hm : X.mg x = none) (hv : bootBuiltins x = some (.type T)) (ha : PA X (e :: es) t) (hn : x ≠ "__name__" := by decide) (hdb : (x == ("__debug__" : Str)) = false := by decide)
    (he : starEach (e :: es) X.env = (false, eval e X.env) :: starEach es X.env := by rfl) (hpl : (backTo pos (starEach es X.env)).any (·.1) = false := by rfl) : PE X (.Call (.Name x p) (e :: es) [] pos) (tCB r t) := by
  intro pins s σ H Q I h
  refine wpAny_Call_Name_kw (ld_blt I hg hm hv ?_ hn hdb)
  exact PyProof.Rows.callWith_type1 (thn (ha pos pins s σ H _ I h) fun us s1 ⟨vs, H1, I1, r1, q1⟩ => hc pins s1 σ H1 vs us Q I1 r1 q1) he hpl
end
end L2
namespace HT
open PySem PyProof.Rows
noncomputable def lexLt : List Int → List Int → Bool
  | [], [] => false
  | [], _ :: _ => true
  | _ :: _, [] => false
  | x :: xs, y :: ys => if x = y then lexLt xs ys else decide (x < y)
theorem lexLt_cons (x y : Int) (xs ys : List Int) : lexLt (x :: xs) (y :: ys) = if x = y then lexLt xs ys else decide (x < y) := rfl
section
open PySem.SeqAt
open PySem.AutoSeq1 (wpAny_loadPart')
open PySem.MeetsSeq PySem.MeetsSeq2 PySem.MeetsSeq3
end
section
variable {prog : Program} {w : World} {A : Around} {E : Value → Shared → Prop} {s : Shared}
theorem cat_tup {t b : Addr} {vs ws : List Value} {Q : Value → Shared → Prop} (ht : IsTup s.heap t vs.toArray) (hb : IsTup s.heap b ws.toArray) (hv : vs ≠ [])
    (h1 : ws = [] → Q (.ref t) s) (h2 : ws ≠ [] → Q (.ref s.heap.objs.size) { s with heap := s.heap.push { cls := .type "tuple", data := .seq (vs ++ ws).toArray } })
    (hsz : vs.length + ws.length ≤ sizeLine) : wpAny (model prog w) A (binaryOp .Add (.ref t) (.ref b)) Q E s := by
  obtain ⟨⟨cls, dd, data, sl⟩, ho, hc, n, hd⟩ := id ht
  obtain ⟨⟨cls2, dd2, data2, sl2⟩, ho2, hc2, n2, hd2⟩ := id hb
  simp only at hc hd hc2 hd2
  subst hc hd hc2 hd2
  have e : vs.toArray ++ ws.toArray = (vs ++ ws).toArray := by simp
  by_cases hw : ws = []
  · exact concat_meets ⟨_, ho, rfl⟩ ⟨_, ho2, rfl⟩ noFill_tuple_add seq_tuple_add PySem.F.slot_tuple_add PySem.F.entry_tuple_add (PySem.F.args_tuple_add_2 _ _)
      (tuple_addW1 t b vs.toArray ws.toArray n n2 dd dd2 sl sl2 (by simpa using hv) (by simp [hw])) ⟨ho, ho2, h1 hw⟩
  · refine concat_meets ⟨_, ho, rfl⟩ ⟨_, ho2, rfl⟩ noFill_tuple_add seq_tuple_add PySem.F.slot_tuple_add PySem.F.entry_tuple_add (PySem.F.args_tuple_add_2 _ _)
      (tuple_addW2 t b vs.toArray ws.toArray n n2 dd dd2 sl sl2 (by simpa using hv) (by simpa using hw) (by rw [List.size_toArray, List.size_toArray]; exact hsz)) ⟨ho, ho2, ?_⟩
    rw [e]
    exact h2 hw
end
end HT
namespace L2
open PySem PySem.Spec PyProof.Rows
noncomputable abbrev TO := St → Hp → (Option Int → Hp → Prop) → Prop
section
variable {X : Cx} {e : Expr} {te : TE} {lo hi : Option Expr} {tl th : TO} {pos p2 : Pos}
noncomputable def SlR (X : Cx) (r : V → Option Int → Option Int → Hp → VK → Prop) : Prop :=
  ∀ (pins : List (Addr × Obj)) (s : Shared) (σ : St) (H : Hp) (x : V) (v vl vu : Value) (lo hi : Option Int) (sl : Addr) (Q : VK), Inv X pins σ H s → RelV x v → s.heap.IsSliceOf sl vl vu .none → IsPart vl lo → IsPart vu hi → r x lo hi H Q →
    ∃ T id, typeLookup (.type T) "__getitem__" = pure (some (.builtin id)) ∧ s.TypeIs v T ∧ wpAny (model X.prog X.w) X.A (getItem v (.ref sl)) (EP X pins σ Q) X.xe s
theorem SlR.or {r r' : V → Option Int → Option Int → Hp → VK → Prop} (h : SlR X r) (h' : SlR X r') : SlR X (fun x lo hi H Q => r x lo hi H Q ∨ r' x lo hi H Q) := by
  intro pins s σ H x v vl vu lo hi sl Q I rx hs pl pu q
  rcases q with q | q
  · exact h pins s σ H x v vl vu lo hi sl Q I rx hs pl pu q
  · exact h' pins s σ H x v vl vu lo hi sl Q I rx hs pl pu q
noncomputable def rCatT (K : PySem.W.Frag) : R2 := fun x y H Q => ∃ a b xs ys, x = .ref a ∧ y = .ref b ∧ SqT K H a xs ∧ SqT K H b ys ∧ xs ≠ [] ∧ xs.length + ys.length ≤ sizeLine ∧
  (ys = [] → Q (.ref a) H) ∧ (ys ≠ [] → ∀ p, H p = none → Q (.ref p) (upd H p (.tup (xs ++ ys))))
theorem Vals.nil_iff {xs : List V} {us : List Value} (r : Vals xs us) : us = [] ↔ xs = [] := by
  cases r with
  | nil => simp
  | cons _ _ => simp
theorem op_catT : OpR X (binaryOp .Add) (rCatT X.K) := by
  intro pins s σ H x y v u Q I rx ry h
  obtain ⟨a, b, xs, ys, rfl, rfl, ha, hb, hx, hz, q1, q2⟩ := h
  cases rx
  cases ry
  obtain ⟨its, r1, p1, _⟩ := I.tuple ha
  obtain ⟨its2, r2, p2, _⟩ := I.tuple hb
  refine HT.cat_tup p1 p2 (fun z => hx (r1.nil_iff.mp z)) (fun z => ⟨.ref a, H, I, rfl, q1 (r2.nil_iff.mp z)⟩) (fun z => ?_) (by rw [← r1.length, ← r2.length]; exact hz)
  refine ⟨.ref s.heap.objs.size, _, I.laid (t' := s.toks) (o := .tup (xs ++ ys)) (fun b ob q => Heap.get?_push_of_some _ q) (Nat.le_refl _) ?_, rfl, q2 (fun w => z (r2.nil_iff.mpr w)) _ (I.hok.fresh (Nat.le_refl _))⟩
  exact ⟨by rw [List.length_append]; exact hz, _, r1.append r2, IsTup.new _ _⟩
end
end L2
namespace L2
open PySem PySem.Spec PyProof.Rows
noncomputable def ixN (n : Nat) (i : Int) : Option Nat := if 0 ≤ i then (if i < n then some i.toNat else none) else if -(n : Int) ≤ i then some (i + n).toNat else none
noncomputable def atI {α : Type} (xs : List α) (i : Int) : Option α := (ixN xs.length i).bind fun j => xs[j]?
theorem ixN_seq {n : Nat} {i : Int} {j : Nat} (h : ixN n i = some j) : seqIndex? i n = some j ∧ j < n ∧ -(n : Int) ≤ i ∧ i < n := by
  unfold ixN at h
  by_cases h0 : 0 ≤ i
  · rw [if_pos h0] at h
    by_cases h1 : i < n
    · rw [if_pos h1] at h
      have e : i.toNat = j := Option.some.inj h
      exact ⟨by rw [seqIndex_of h0 h1, e], by lia, by lia, h1⟩
    · rw [if_neg h1] at h; cases h
  · rw [if_neg h0] at h
    by_cases h1 : -(n : Int) ≤ i
    · rw [if_pos h1] at h
      have e : (i + n).toNat = j := Option.some.inj h
      exact ⟨by rw [seqIndex_neg (by lia) h1, e], by lia, h1, by lia⟩
    · rw [if_neg h1] at h; cases h
theorem atI_get {α : Type} {xs : List α} {i : Int} {v : α} (h : atI xs i = some v) : ∃ j, seqIndex? i xs.length = some j ∧ xs[j]? = some v ∧ j < xs.length ∧ -(xs.length : Int) ≤ i ∧ i < xs.length := by
  unfold atI at h
  cases e : ixN xs.length i with
  | none => rw [e] at h; cases h
  | some j =>
    rw [e] at h
    obtain ⟨h1, h2, h3, h4⟩ := ixN_seq e
    exact ⟨j, h1, h, h2, h3, h4⟩
noncomputable def PlainIx (b : Expr) : Prop := ∀ o i, subscripted b false o i = operate [o, i] (getItem o i)
noncomputable def IxR (X : Cx) (r : R2) : Prop :=
  ∀ (value slice : Expr) (pins : List (Addr × Obj)) (s : Shared) (σ : St) (H : Hp) (x y : V) (v u : Value) (Q : VK), Inv X pins σ H s → RelV x v → RelV y u → r x y H Q →
    subscripted slice false v u = operate [v, u] (getItem v u) → wpAny (model X.prog X.w) X.A (subscriptTail value slice v u) (EP X pins σ Q) X.xe s
noncomputable def MtR (X : Cx) (id : String) (r : V → List V → Hp → VK → Prop) : Prop :=
  ∀ (pins : List (Addr × Obj)) (s : Shared) (σ : St) (H : Hp) (x : V) (xs : List V) (v : Value) (us : List Value) (Q : VK), Inv X pins σ H s → RelV x v → Vals xs us → r x xs H Q →
    wpAny (model X.prog X.w) X.A (call (.builtin id) (v :: us)) (EP X pins σ Q) X.xe s
section
variable {X : Cx} {a b : Expr} {ta tb : TE} {pos : Pos}
theorem IxR.or {r r' : R2} (h : IxR X r) (h' : IxR X r') : IxR X (fun x y H Q => r x y H Q ∨ r' x y H Q) := by
  intro value slice pins s σ H x y v u Q I rx ry q hs
  rcases q with q | q
  · exact h value slice pins s σ H x y v u Q I rx ry q hs
  · exact h' value slice pins s σ H x y v u Q I rx ry q hs
theorem MtR.or {id : String} {r r' : V → List V → Hp → VK → Prop} (h : MtR X id r) (h' : MtR X id r') : MtR X id (fun x xs H Q => r x xs H Q ∨ r' x xs H Q) := by
  intro pins s σ H x xs v us Q I rx rs q
  rcases q with q | q
  · exact h pins s σ H x xs v us Q I rx rs q
  · exact h' pins s σ H x xs v us Q I rx rs q
theorem pe_ix {r : R2} (hr : IxR X r) (ha : PE X a ta) (hb : PE X b tb) (hs : PlainIx b) : PE X (.Subscript a b pos) (tOp r ta tb) := by
  intro pins s σ H Q I h
  exact Subscript_ (binT ha hb I h fun v u s2 x y H2 I2 rx ry q => hr a b pins s2 σ H2 x y v u Q I2 rx ry q (hs _ _))
noncomputable def rIxL (K : PySem.W.Frag) : R2 := fun x y H Q => ∃ p xs i v, x = .ref p ∧ y = .int i ∧ SqL K H p xs ∧ atI xs i = some v ∧ Q v H
noncomputable def rIxT (K : PySem.W.Frag) : R2 := fun x y H Q => ∃ p xs i v, x = .ref p ∧ y = .int i ∧ SqT K H p xs ∧ atI xs i = some v ∧ Q v H
noncomputable def rIxS : R2 := fun x y H Q => ∃ z i c, x = .str z ∧ y = .int i ∧ z.length ≤ sizeLine ∧ atI z.cps.toList i = some c ∧ Q (.str ⟨#[c]⟩) H
theorem ix_list : IxR X (rIxL X.K) := by
  intro value slice pins s σ H x y v u Q I rx ry h hs
  obtain ⟨p, xs, i, z, rfl, rfl, hq, he, q⟩ := h
  cases rx
  obtain ⟨t, rfl⟩ := ry
  obtain ⟨its, r, pl, hz⟩ := I.list hq
  obtain ⟨j, h1, h2, h3, h4, h5⟩ := atI_get he
  obtain ⟨w, ew, rw'⟩ := r.get h2
  have hl := r.length
  have hn := line63
  have fin : EP X pins σ Q w s := ⟨z, H, I, rw', q⟩
  by_cases h0 : 0 ≤ i
  · have hj : i.toNat = j := by
      rw [seqIndex_of h0 h5] at h1
      exact Option.some.inj h1
    exact item_listR pl.isList h0 (by lia) (by rw [hj]; simpa using ew) fin hs
  · have hj : (i + (its.toArray.size : Int)).toNat = j := by
      rw [seqIndex_neg (by lia) h4] at h1
      rw [List.size_toArray, ← hl]
      exact Option.some.inj h1
    exact subscriptTail_builtinR (x := w) pl.isList.typeIs slot_list_getitem.lookup
      (wpAny_getItem_list_neg (Q := fun r s' => r = w ∧ EP X pins σ Q r s') pl.isList (by lia) (by rw [List.size_toArray] <;> lia) (by lia) (by rw [hj]; simpa using ew) ⟨rfl, fin⟩) hs
theorem ix_tup : IxR X (rIxT X.K) := by
  intro value slice pins s σ H x y v u Q I rx ry h hs
  obtain ⟨p, xs, i, z, rfl, rfl, hq, he, q⟩ := h
  cases rx
  obtain ⟨t, rfl⟩ := ry
  obtain ⟨its, r, pl, hz⟩ := I.tuple hq
  obtain ⟨j, h1, h2, h3, h4, h5⟩ := atI_get he
  obtain ⟨w, ew, rw'⟩ := r.get h2
  have hl := r.length
  have hn := line63
  have fin : EP X pins σ Q w s := ⟨z, H, I, rw', q⟩
  exact subscriptTail_builtinR (x := w) pl.typeIs slot_tuple_getitem.lookup
    (getItem_tuple (j := j) (Q := fun r s' => r = w ∧ EP X pins σ Q r s') pl (by lia) (by lia) (by rw [List.size_toArray, ← hl]; exact h1) (by simpa using ew) ⟨rfl, fin⟩) hs
theorem ix_str : IxR X rIxS := by
  intro value slice pins s σ H x y v u Q I rx ry h hs
  obtain ⟨z, i, c, rfl, rfl, hz, he, q⟩ := h
  obtain ⟨t, rfl⟩ := rx
  obtain ⟨t', rfl⟩ := ry
  obtain ⟨j, h1, h2, h3, h4, h5⟩ := atI_get he
  have hl : z.cps.toList.length = z.length := by simp [Str.length]
  rw [hl] at h1 h4 h5
  have hn := line63
  exact tail_any (typeIs_str s z t) slot_str_getitem.lookup (getItem_str (c := c) (by
    have e1 : decide (i < -(2 ^ 63 : Int)) = false := decide_eq_false (by lia)
    have e2 : decide (i ≥ 2 ^ 63) = false := decide_eq_false (by lia)
    rw [e1, e2, Bool.or_false]) (by rw [h1]; simpa using h2) ⟨.str ⟨#[c]⟩, H, I.tok _, ⟨_, rfl⟩, q⟩) hs
noncomputable def rIx (K : PySem.W.Frag) : R2 := fun x y H Q => rIxL K x y H Q ∨ rIxT K x y H Q ∨ rIxS x y H Q
theorem ix_seq : IxR X (rIx X.K) := ix_list.or (ix_tup.or ix_str)
theorem Inv.lst {pins : List (Addr × Obj)} {σ : St} {H : Hp} {s : Shared} {p : Addr} {xs : List V} (I : Inv X pins σ H s) (h : H p = some (.lst xs)) :
    ∃ (its : List Value) (n : Nat), Vals xs its ∧ s.heap.get? p = some { cls := .type "list", data := .seq its.toArray n } ∧ xs.length ≤ sizeLine := by
  obtain ⟨z, its, n, r, e⟩ := I.hok p _ h
  exact ⟨its, n, r, e, z⟩
theorem call_len_seq : CallR X (.builtin "len") (fun xs H Q => ∃ p ys, xs = [.ref p] ∧ (SqL X.K H p ys ∨ SqT X.K H p ys) ∧ Q (.int ys.length) H) := by
  intro pins s σ H xs us Q I r h
  obtain ⟨p, ys, rfl, hq, q⟩ := h
  obtain ⟨u, rfl, rx⟩ := vals1 r
  cases rx
  have hn := line63
  rcases hq with hq | hq
  · obtain ⟨its, r', pl, hz⟩ := I.list hq
    have hlen := r'.length
    exact Calls.call_len_list pl.isList (by simp only [List.size_toArray] <;> lia) ⟨.int ys.length, H, I.tok _, ⟨s.toks + 1, by rw [List.size_toArray, hlen]⟩, q⟩
  · obtain ⟨its, r', pl, hz⟩ := I.tuple hq
    have hlen := r'.length
    exact len_tuple pl (by simp only [List.size_toArray] <;> lia) ⟨.int ys.length, H, I.tok _, ⟨s.toks + 1, by rw [List.size_toArray, hlen]⟩, q⟩
theorem CallR.or {f : Value} {r r' : List V → Hp → VK → Prop} (h : CallR X f r) (h' : CallR X f r') : CallR X f (fun xs H Q => r xs H Q ∨ r' xs H Q) := by
  intro pins s σ H xs us Q I rs q
  rcases q with q | q
  · exact h pins s σ H xs us Q I rs q
  · exact h' pins s σ H xs us Q I rs q
theorem call_list_of : CallR X (.type "list") (fun xs H Q => ∃ p ys, xs = [.ref p] ∧ (SqL X.K H p ys ∨ SqT X.K H p ys) ∧ ∀ l, H l = none → Q (.ref l) (upd H l (.lst ys))) := by
  intro pins s σ H xs us Q I r h
  obtain ⟨p, ys, rfl, hq, q⟩ := h
  obtain ⟨u, rfl, rx⟩ := vals1 r
  cases rx
  have fin : ∀ (its : List Value), Vals ys its → ys.length ≤ sizeLine → ∀ (h' : Heap) (c' : Nat), (∀ b o', s.heap.get? b = some o' → h'.get? b = some o') →
      h'.get? s.heap.objs.size = some { cls := .type "list", dict := none, data := .seq its.toArray c', slots := #[] } → EP X pins σ Q (.ref s.heap.objs.size) { s with heap := h' } := fun its r' hz h' c' kp e =>
    ⟨.ref s.heap.objs.size, _, I.laid (t' := s.toks) kp (Nat.le_refl _) (show ObjOk X.prog X.w _ h' _ (.lst ys) from ⟨hz, its, c', r', e⟩), rfl, q _ (I.hok.fresh (Nat.le_refl _))⟩
  rcases hq with hq | hq
  · obtain ⟨its, r', pl, hz⟩ := I.list hq
    have hlen := r'.length
    obtain ⟨o, ho, hc, n, hd⟩ := pl.isList
    exact call_list_seq p (.inl rfl) ho hc hd (fun h' c' kp e => fin its r' hz h' c' kp e) (by simp only [List.size_toArray] <;> lia)
  · obtain ⟨its, r', pl, hz⟩ := I.tuple hq
    have hlen := r'.length
    obtain ⟨o, ho, hc, n, hd⟩ := pl
    exact call_list_seq p (.inr rfl) ho hc hd (fun h' c' kp e => fin its r' hz h' c' kp e) (by simp only [List.size_toArray] <;> lia)
noncomputable def tyV (K : PySem.W.Frag) (T : String) (x : V) (H : Hp) : Prop := match x with
  | .str _ => T = "str"
  | .int _ => T = "int"
  | .ref p => (T = "list" ∧ ∃ xs, SqL K H p xs) ∨ (T = "tuple" ∧ ∃ o, K.lookup p = some o ∧ o.cls = .type "tuple" ∧ o.dict = none) ∨
      (T = "dict" ∧ ((∃ kvs, H p = some (.dK kvs)) ∨ ∃ kvs, H p = some (.dT kvs))) ∨ (T = "set" ∧ ∃ S n, H p = some (.set S n))
  | _ => False
theorem tyV_is {pins : List (Addr × Obj)} {σ : St} {H : Hp} {s : Shared} {T : String} {x : V} {v : Value} (I : Inv X pins σ H s) (r : RelV x v) (ty : tyV X.K T x H) :
    s.TypeIs v T ∧ ∀ a, v = .ref a → ∃ ob, s.heap.get? a = some ob ∧ ob.dict = none := by
  cases x with
  | str z =>
    obtain ⟨t, rfl⟩ := r
    cases (show T = "str" from ty)
    exact ⟨typeIs_str s z t, fun _ e => nomatch e⟩
  | int i =>
    obtain ⟨t, rfl⟩ := r
    cases (show T = "int" from ty)
    exact ⟨typeIs_int s i t, fun _ e => nomatch e⟩
  | ref p =>
    cases r
    rcases ty with ⟨rfl, xs, hq⟩ | ⟨rfl, o, hk, hc, hd⟩ | ⟨rfl, hk⟩ | ⟨rfl, S, n, hk⟩
    · obtain ⟨its, _, pl, _⟩ := I.list hq
      refine ⟨pl.isList.typeIs, fun a e => ?_⟩
      cases e
      obtain ⟨o, n, e, c, hd, _⟩ := pl
      exact ⟨o, e, hd⟩
    · refine ⟨⟨o, I.kIn p o hk, hc⟩, fun a e => ?_⟩
      cases e
      exact ⟨o, I.kIn _ o hk, hd⟩
    · have z : ∃ o, s.heap.get? p = some o ∧ o.ExactDict := by
        rcases hk with ⟨kvs, hk⟩ | ⟨kvs, hk⟩
        · obtain ⟨_, _, _, _, o, _, _, e, ex, _⟩ := I.hok p _ hk
          exact ⟨o, e, ex⟩
        · obtain ⟨_, _, _, _, o, _, _, e, ex, _⟩ := I.hok p _ hk
          exact ⟨o, e, ex⟩
      obtain ⟨o, e, ex⟩ := z
      refine ⟨⟨o, e, ex.1⟩, fun a e2 => ?_⟩
      cases e2
      exact ⟨o, e, ex.2.1⟩
    · obtain ⟨o, _, _, _, e, ex, _⟩ := I.hok p _ hk
      refine ⟨⟨o, e, ex.1⟩, fun a e2 => ?_⟩
      cases e2
      exact ⟨o, e, ex.2.1⟩
  | _ => exact False.elim ty
noncomputable def tBM (K : PySem.W.Frag) (T : String) (r : V → List V → Hp → VK → Prop) (to : TE) (t : TA) : TE := fun σ H Q => to σ H fun x H1 => tyV K T x H1 ∧ t σ H1 fun xs H2 => r x xs H2 Q
variable {o e : Expr} {es : List Expr} {to : TE} {t : TA} {name : Str} {apos cpos : Pos} {T id : String} {r : V → List V → Hp → VK → Prop}
theorem pe_bm (pa : PlainAttrs T) (slot : Slot T name id) (hty : typeOf (.builtin id) = pure (.type "method_descriptor")) (hm : MtR X id r) (ho : PE X o to) (ha : PA X (e :: es) t)
    (hbase : attributeBase o name X.env (eval o X.env) = eval o X.env := by rfl)
    (hfew : ((backTo cpos (starEach (e :: es) X.env)).all (fun x => !x.1) && (backToKw cpos (keywordEach [] X.env)).all (fun x => x.1.isSome)
      && decide ((e :: es).length + ([] : List Keyword).length + (if ([] : List Keyword).isEmpty then 0 else 1) < 30)) = true := by rfl)
    (hline : (apos.endLine == cpos.line) = true := by rfl) (hs : starEach (e :: es) X.env = (false, eval e X.env) :: starEach es X.env := by rfl) (hplain : (backTo cpos (starEach es X.env)).any (·.1) = false := by rfl) :
    PE X (.Call (.Attribute o name apos) (e :: es) [] cpos) (tBM X.K T r to t) := by
  intro pins s σ H Q I h
  refine wpAny_Call_method_late hbase hfew hline rfl (thn (ho pins s σ H _ I h) fun v s1 ⟨x, H1, I1, r1, ty, q1⟩ => ?_)
  obtain ⟨h1, h2⟩ := tyV_is I1 r1 ty
  refine ⟨T, id, pa, slot, hty, h1, h2, ?_⟩
  have hA := ha cpos pins s1 σ H1 _ I1 q1
  rw [hs] at hA ⊢
  refine Calls.callWith_builtin (by show (false || (backTo cpos (starEach es X.env)).any (·.1)) = false; rw [hplain] <;> rfl) (Calls.evalArgs_plain ?_)
  exact thn hA fun us s2 ⟨vs, H2, I2, r2, q2⟩ => hm pins s2 σ H2 x vs v us Q I2 r1 r2 q2
end
end L2
namespace L2
open PySem PySem.Spec PyProof.Rows
noncomputable def MtM (X : Cx) (id : String) (r : V → List V → Hp → VK → Prop) : Prop :=
  ∀ (pins : List (Addr × Obj)) (s : Shared) (σ : St) (H : Hp) (x : V) (xs : List V) (v : Value) (us : List Value) (Q : VK), Inv X pins σ H s → RelV x v → Vals xs us → r x xs H Q →
    wpAny (model X.prog X.w) X.A (call (.builtin id) (v :: us)) (EP X pins σ Q) X.xe s
theorem Vals.one : ∀ {x : V} {us : List Value}, Vals [x] us → ∃ u, us = [u] ∧ RelV x u
  | _, _, .cons r .nil => ⟨_, rfl, r⟩
theorem Vals.zero : ∀ {us : List Value}, Vals [] us → us = []
  | _, .nil => rfl
theorem Vals.eraseIdx : ∀ {xs : List V} {us : List Value} (i : Nat), Vals xs us → Vals (xs.eraseIdx i) (us.eraseIdx i)
  | _, _, _, .nil => .nil
  | _, _, 0, .cons _ t => t
  | _, _, i + 1, .cons r t => .cons r (Vals.eraseIdx i t)
theorem Vals.rep {xs : List V} {us : List Value} (h : Vals xs us) : ∀ k : Nat, Vals (List.replicate k xs).flatten (List.replicate k us).flatten
  | 0 => .nil
  | k + 1 => by
    rw [List.replicate_succ, List.replicate_succ, List.flatten_cons, List.flatten_cons]
    exact Vals.append h (Vals.rep h k)
theorem len_erase {α : Type} : ∀ (l : List α) (i : Nat), (l.eraseIdx i).length ≤ l.length
  | [], _ => Nat.le_refl _
  | _ :: _, 0 => Nat.le_succ _
  | _ :: r, i + 1 => Nat.succ_le_succ (len_erase r i)
theorem foldl_rep (its : List Value) : ∀ (k : Nat) (acc : List Value),
    List.foldl (fun x1 x2 => x1 ++ x2) acc.toArray (List.replicate k its.toArray) = (acc ++ (List.replicate k its).flatten).toArray
  | 0, acc => by simp
  | k + 1, acc => by
    have e : acc.toArray ++ its.toArray = (acc ++ its).toArray := by simp
    have e2 : (acc ++ its) ++ (List.replicate k its).flatten = acc ++ (List.replicate (k + 1) its).flatten := by
      rw [List.replicate_succ, List.flatten_cons, List.append_assoc]
    rw [← e2, ← foldl_rep its k (acc ++ its), ← e, List.replicate_succ, List.foldl_cons]
section
variable {X : Cx} {pins : List (Addr × Obj)} {σ : St} {H : Hp} {s : Shared} {l b : Addr} {xs ys zs : List V}
theorem Inv.lset {its its' : List Value} {n : Nat} {f : Array Value → Array Value} {t' : Nat} (I : Inv X pins σ H s) (hH : H l = some (.lst xs))
    (e : s.heap.get? l = some { cls := .type "list", data := .seq its.toArray n }) (hf : f its.toArray = its'.toArray) (hv : Vals ys its') (hz : ys.length ≤ sizeLine) :
    Inv X pins σ (upd H l (.lst ys)) { s with heap := s.heap.update l (Obj.mapSeq f), toks := t' } := by
  have q := PySem.IsL.update e f
  rw [hf] at q
  refine I.write (x := l) (e := l) (by rw [hH]; exact trivial) (.inl rfl) (fun b' u hb hu => (Heap.get?_update_other s.heap (Obj.mapSeq f) (Ne.symm hb)).trans hu) ⟨_, q⟩ ?_
  exact ⟨hz, its', _, hv, q⟩
theorem Inv.lnew {its : List Value} {t' : Nat} (I : Inv X pins σ H s) (hv : Vals ys its) (hz : ys.length ≤ sizeLine) :
    Inv X pins σ (upd H s.heap.objs.size (.lst ys)) { s with heap := s.heap.push { cls := .type "list", data := .seq its.toArray }, toks := t' } :=
  I.laid (fun _ _ q => Heap.get?_push_of_some _ q) (Nat.le_refl _) ⟨hz, its, 0, hv, Heap.get?_push_size _ rfl⟩
theorem Inv.fresh (I : Inv X pins σ H s) : H s.heap.objs.size = none := I.hok.fresh (Nat.le_refl _)
theorem Inv.lstM (I : Inv X pins σ H s) (hH : H l = some (.lst xs)) : xs.length ≤ sizeLine ∧ ∃ (its : List Value) (n : Nat), Vals xs its ∧ xs.length = its.length ∧ s.heap.get? l = some { cls := .type "list", data := .seq its.toArray n } := by
  obtain ⟨z, its, n, r, e⟩ := I.hok l _ hH
  exact ⟨z, its, n, r, r.length, e⟩
theorem notLongL {n : Nat} (h : n ≤ sizeLine) : Builtin.List.listTooLong n = false := by
  unfold Builtin.List.listTooLong
  exact decide_eq_false (by lia)
end
section
variable {X : Cx}
noncomputable def rExtend : V → List V → Hp → VK → Prop := fun x vs H Q => ∃ l b xs zs, x = .ref l ∧ vs = [.ref b] ∧ H l = some (.lst xs) ∧ H b = some (.lst zs) ∧ xs.length + zs.length ≤ sizeLine ∧ Q .non (upd H l (.lst (xs ++ zs)))
theorem mt_extend : MtM X "list.extend" rExtend := by
  intro pins s σ H x vs v us Q I rx rv h
  obtain ⟨l, b, xs, zs, rfl, rfl, hH, hB, hz, q⟩ := h
  cases rx
  obtain ⟨u, rfl, ru⟩ := rv.one
  cases ru
  obtain ⟨z, its, n, r, hl, e⟩ := I.lstM hH
  obtain ⟨z2, its2, n2, r2, hl2, e2⟩ := I.lstM hB
  have hsz : its.toArray.size + its2.toArray.size ≤ sizeLine := by rw [List.size_toArray, List.size_toArray]; lia
  have hlong : ¬ (!its.toArray.isEmpty && Builtin.List.listTooLong (its.toArray.size + its2.toArray.size)) = true := by
    rw [notLongL hsz, Bool.and_false]
    exact Bool.false_ne_true
  refine call_meets F.slot_list_extend ⟨_, e, rfl⟩ F.entry_list_extend (F.args_list_extend_2 _ _)
    (AutoSeq1.list_extend_list_list_0 l its.toArray n b its2.toArray n2 hlong (by rw [List.size_toArray]; lia) (by lia)) ⟨e, e2, ?_⟩
  refine ⟨.non, _, I.lset (its' := its ++ its2) hH e (by simp) (r.append r2) ?_, rfl, q⟩
  rw [List.length_append]
  lia
noncomputable def rCat : R2 := fun x y H Q => ∃ l b xs zs, x = .ref l ∧ y = .ref b ∧ H l = some (.lst xs) ∧ H b = some (.lst zs) ∧ xs.length + zs.length ≤ sizeLine ∧ ∀ p, H p = none → Q (.ref p) (upd H p (.lst (xs ++ zs)))
theorem op_cat : OpR X (binaryOp .Add) rCat := by
  intro pins s σ H x y v u Q I rx ry h
  obtain ⟨l, b, xs, zs, rfl, rfl, hH, hB, hz, q⟩ := h
  cases rx
  cases ry
  obtain ⟨z, its, n, r, hl, e⟩ := I.lstM hH
  obtain ⟨z2, its2, n2, r2, hl2, e2⟩ := I.lstM hB
  refine PySem.P.add_list e e2 ?_ (by rw [List.size_toArray, List.size_toArray]; lia)
  have ea : its.toArray ++ its2.toArray = (its ++ its2).toArray := by simp
  rw [ea]
  exact ⟨.ref _, _, I.lnew (t' := s.toks) (r.append r2) (by rw [List.length_append]; lia), rfl, q _ I.fresh⟩
noncomputable def rRep : R2 := fun x y H Q => ∃ l k xs, x = .ref l ∧ y = .int k ∧ H l = some (.lst xs) ∧ -(2 ^ 63) ≤ k ∧ k < 2 ^ 63 ∧ xs.length * k.toNat ≤ sizeLine ∧
  ∀ p, H p = none → Q (.ref p) (upd H p (.lst (List.replicate k.toNat xs).flatten))
theorem len_rep {α : Type} (xs : List α) (k : Nat) : (List.replicate k xs).flatten.length = k * xs.length := by
  induction k with
  | zero => simp
  | succ k ih => rw [List.replicate_succ, List.flatten_cons, List.length_append, ih, Nat.succ_mul, Nat.add_comm]
theorem op_rep : OpR X (binaryOp .Mult) rRep := by
  intro pins s σ H x y v u Q I rx ry h
  obtain ⟨l, k, xs, rfl, rfl, hH, h1, h2, hz, q⟩ := h
  cases rx
  obtain ⟨t, rfl⟩ := ry
  obtain ⟨z, its, n, r, hl, e⟩ := I.lstM hH
  have hlen : its.toArray.size * k.toNat ≤ sizeLine := by rw [List.size_toArray, ← hl]; exact hz
  have hcap : ¬ its.toArray.size * k.toNat > (2 ^ 63 - 1) / 8 := by
    have : (sizeLine : Nat) ≤ (2 ^ 63 - 1) / 8 := by decide
    lia
  have hfit : ¬ (!Builtin.List.listFitsIndex k) = true := by
    rw [fitsIndex_both h1 h2]
    exact Bool.false_ne_true
  have hlong : ¬ Builtin.List.listTooLong (its.toArray.size * k.toNat) = true := by
    rw [notLongL hlen]
    exact Bool.false_ne_true
  have hnew : List.foldl (fun x1 x2 => x1 ++ x2) #[] (List.replicate (if its.toArray.isEmpty = true then 0 else k.toNat) its.toArray) = (List.replicate k.toNat its).flatten.toArray := by
    have f0 : ∀ m : Nat, List.foldl (fun x1 x2 => x1 ++ x2) #[] (List.replicate m its.toArray) = (List.replicate m its).flatten.toArray := fun m => by
      have := foldl_rep its m []
      rw [List.nil_append] at this
      exact this
    rw [f0]
    cases its with
    | nil => simp
    | cons a r' => rw [if_neg (by simp)]
  refine wpAny_binaryOp_repeat_ref (T := "list") (U := "int") (by decide) ⟨_, e, rfl⟩ (fun s' => typeIs_int s' k t) noFill_list_mul F.fills_int_mul F.slot_int_rmul repeat_list F.slot_int_index.lookup
    (call_meets F.slot_int_rmul (typeIs_int s k t) F.entry_int_rmul (F.args_int_rmul_2 _ _) (int___rmul___int_list k t l its.toArray n)
      ⟨e, rfl, ⟨_, e, rfl⟩, call_meets F.slot_list_mul ⟨_, e, rfl⟩ F.entry_list_mul (F.args_list_mul_2 _ _) (AutoListH.list___mul___list_int_3 l its.toArray n k t hfit hcap hlong) ⟨e, ?_⟩⟩)
  rw [hnew]
  exact ⟨.ref _, _, I.lnew (t' := s.toks) (r.rep k.toNat) (by rw [len_rep, Nat.mul_comm]; exact hz), rfl, q _ I.fresh⟩
end
section
variable {prog : Program} {w : World} {A : Around} {E : Value → Shared → Prop} {s : Shared}
set_option maxRecDepth 100000 in
end
section
variable {X : Cx}
end
end L2
namespace Att
open PySem PySem.W PySem.Calls PyProof.Rows
theorem ints_of_wellAll {P : Params} {h : Heap} : ∀ (ns : List Int) (vs : List Value), WellAll P h vs (ns.map WData.int) → IntsAre vs ns := by
  intro ns
  induction ns with
  | nil =>
    intro vs w
    rw [List.map_nil] at w
    cases w
    exact .nil
  | cons n ns ih =>
    intro vs w
    rw [List.map_cons] at w
    cases w with
    | cons a b =>
      cases a
      exact .cons _ _ (ih _ b)
theorem script_of {l : OpenLaw} {n : Nat} (hn : l.most = some n) {P : Params} {h : Heap} {args : List WData} {vals : List Value}
    (hpre : l.row.toRowW.claim.pre args = true) (hwl : WellAll P h vals args) :
    ∃ a vs ns, vals = [Value.ref a] ∧ args = [WData.list (ns.map WData.int)] ∧ h.get? a = some { cls := .type "list", data := .seq vs.toArray } ∧ IntsAre vs ns ∧ ns.length ≤ n := by
  have hsh : WShape.hasAll [] args [.list .int] = true := (pre_splitW hpre).1
  have hc : l.pre.holds [] { args := args } = true := (pre_splitW hpre).2
  obtain ⟨d, r, rfl, h1, h2⟩ := hasAllW_cons hsh
  obtain rfl := hasAllW_nil h2
  obtain ⟨xs, rfl, h3⟩ := hasW_list h1
  obtain ⟨ns, rfl⟩ := items_int h3
  have hlen : ns.length ≤ n := by
    unfold OpenLaw.pre at hc
    have h4 : (WTm.not (.lt (.lit (.int (n : Int))) (.len (.arg 0)))).holds [] { args := [.list (ns.map .int)] } = true := by
      have h4 := (holds_andW hc).1
      rw [hn] at h4
      exact h4
    have h5 := condW_of h4 (w_not (w_lt w_lit (w_len_list (w_arg rfl))))
    rw [List.length_map] at h5
    refine Nat.le_of_not_lt fun q => ?_
    have q' : (n : Int) < ((ns.length : Nat) : Int) := by lia
    first
      | (rw [decide_eq_true q'] at h5; exact absurd h5 (by decide))
      | (simp at h5; lia)
  cases hwl with
  | cons w1 w2 =>
    cases w2
    cases w1 with
    | list ho hall => exact ⟨_, _, ns, rfl, rfl, ho, ints_of_wellAll ns _ hall, hlen⟩
theorem post_true (l : OpenLaw) (args : List WData) : l.row.toRowW.claim.post args (.bool true) args = true :=
  postW_of (r := l.row.toRowW) (X := (true == true))
    (show WShape.has [] (.bool true) .bool = true by first | rfl | decide | simp [WShape.has, WShape.arms, WShape.armsAll])
    (show (WTm.eq .res (.lit (.bool true))).value [] { args := args, res := some (.bool true), after := args } = some (.bool (true == true)) from w_eq_bool (w_res rfl) w_lit) rfl
theorem attach_call {l : OpenLaw} {n : Nat} {q : Program} {loose : List Str} {XP : (Str → Option Value) → Heap → Prop} {YP : World → Heap → Prop} {d : DefRec}
    (hn : l.most = some n) (hdf : d.params.defaults = [])
    (call : ∀ (w : World) (s₀ s₁ : Shared) (mg mb : Str → Option Value) (fa : Addr) (o : Obj) (pm cd doc : Value) (a : Addr) (vs : List Value) (ns : List Int),
      Ground q loose [] XP w s₀ mg mb s₁.heap → YP w s₁.heap →
      s₁.heap.get? fa = some o → o.data = .func (docDef d.name d.params d.body d.scope pm cd doc) → s₁.heap.CodeRec cd d.name → mg d.name = some (.ref fa) →
      s₁.heap.get? a = some { cls := .type "list", data := .seq vs.toArray } → IntsAre vs ns → ns.length ≤ n → s₁.gens = #[] →
      codeAny (model l.prog w) callerA (.call (.ref fa) ⟨[.ref a], []⟩) (fun r s' => r = .ok (.ret (.bool true)) ∧ OldK s₁.heap s'.heap ∧ s'.os = s₁.os ∧ AllBare s'.gens) s₁) :
    WalkO q loose XP YP l.row.toRowW d [] (fun f vs => PySem.call f vs) := by
  intro w s₀ s₁ mg mb G Y fa o pm cd doc dV kV ho hd hcd hD hmg hg args vals as hpre hlay hrd hwl hlo
  obtain rfl : dV = .none := Dflts.none hD hdf
  obtain rfl : kV = .none := Dflts.noKw hD
  obtain ⟨a, vs, ns, rfl, rfl, hobj, hints, hlen⟩ := script_of hn hpre hwl
  refine enter_call (codeAny_mono (call w s₀ s₁ mg mb fa o pm cd doc a vs ns G Y ho (fd_plain hd) hcd hmg hobj hints hlen hg) fun r s' hq => ?_)
  obtain ⟨rfl, h2, h3, h4⟩ := hq
  exact ⟨.inl ⟨.bool true, .bool true, [], rfl, fun _ => rfl, .bool true, post_true l _, fun _ => ⟨List.Pairwise.nil, fun _ hm => (nomatch hm)⟩⟩, h2, h3, h4⟩
section
variable {prog : Program} {w : World} {A : Around} {E : Value → Shared → Prop} {s : Shared} {K : Frag}
end
end Att
namespace L2
open PySem PySem.Spec PyProof.Rows
theorem vals_ints : ∀ {vs : List Value} {ns : List Int}, IntsAre vs ns → Vals (ns.map V.int) vs
  | _, _, .nil => .nil
  | _, _, .cons n t h => .cons ⟨t, rfl⟩ (vals_ints h)
noncomputable def Only (H : Hp) : Prop := ∀ b, H b = none ∨ ∃ o xs, H b = some (.frz o (.lst xs))
theorem law_call {P : Program} {w : World} {K : PySem.W.Frag} {mg mb : Str → Option Value} {CX : CXT} {k : Nat} {fa a : Addr} {fd : FuncData} {x : Str} {sp : Sp} {s₁ : Shared} {vs : List Value} {ns : List Int}
    (KX : K.In s₁.heap) (hns : s₁.heap.Ns mainGlobals mg) (hb : s₁.heap.Ns builtinsNs mb) (hbb : ∀ x : Str, x ≠ "__name__" → mb x = bootBuiltins x) (hlim : s₁.heap.NoLimit) (hg : s₁.gens = #[])
    (ha : s₁.heap.get? a = some { cls := .type "list", data := .seq vs.toArray }) (hi : IntsAre vs ns) (hl : ns.length ≤ sizeLine) (hr : Room k callerA)
    (F : ∀ base : Heap, K.In base → base.Ns mainGlobals mg → FnOk P w K mg base CX k fa fd [x] sp) (hbind : ∀ (s : Shared) (u : Value), BindsTo s fd ⟨[u], []⟩ [(x, u)])
    (hsp : ∀ H : Hp, Only H → SqL K H a (ns.map V.int) → sp [.ref a] H (fun v _ => v = .bl true) fun _ _ _ => False)
    (hCX : ∀ H e s', CX [] H s₁ (fun _ _ _ => False) e s' → False) :
    codeAny (model P w) callerA (.call (.ref fa) ⟨[.ref a], []⟩) (fun r s' => r = .ok (.ret (.bool true)) ∧ OldK s₁.heap s'.heap ∧ s'.os = s₁.os ∧ AllBare s'.gens) s₁ := by
  have rv := vals_ints hi
  have lenV := hi.length
  have core : ∀ H : Hp, Only H → SqL K H a (ns.map V.int) → HOk P w H s₁.heap → (∀ b, H b ≠ none → b = a) → (H a ≠ none → K.lookup a = none) →
      codeAny (model P w) callerA (.call (.ref fa) ⟨[.ref a], []⟩) (fun r s' => r = .ok (.ret (.bool true)) ∧ OldK s₁.heap s'.heap ∧ s'.os = s₁.os ∧ AllBare s'.gens) s₁ := by
    intro H hO hS hok hA hK
    have base_of : ∀ {b : Addr} {o : Obj}, s₁.heap.get? b = some o → H b = none → (hidT s₁.heap H).get? b = some o := fun e n => hidT_get e n
    have noA : ∀ {b : Addr} {o : Obj} {es : Array DictEntry} {ep : Nat}, s₁.heap.get? b = some o → o.data = .dict es ep → H b = none := fun {b o es ep} e d => by
      cases q : H b with
      | none => rfl
      | some u =>
        have e' : b = a := hA b (by rw [q]; simp)
        subst e'
        rw [ha] at e; cases e
        have d' : Data.seq vs.toArray _ = Data.dict es ep := d
        cases d'
    have nsK : ∀ {b : Addr} {m : Str → Option Value}, s₁.heap.Ns b m → (hidT s₁.heap H).Ns b m := fun {b m} ⟨o, es, ep, e, d, r⟩ => ⟨o, es, ep, base_of e (noA e d), d, r⟩
    have hKb : K.In (hidT s₁.heap H) := fun b o e => base_of (KX b o e) (by
      cases q : H b with
      | none => rfl
      | some u =>
        have e' : b = a := hA b (by rw [q]; simp)
        subst e'
        rw [hK (by rw [q]; simp)] at e; cases e)
    have hM : Mod K mg (hidT s₁.heap H) := ⟨hKb, nsK hns, ⟨mb, nsK hb, hbb⟩, let ⟨mc, h1, h2⟩ := hlim; ⟨mc, nsK h1, h2⟩⟩
    have e0 : Env0 P w K mg (hidT s₁.heap H) callerA [] s₁ H := ⟨rfl, hM, fun b o e => of_hidT e, Nat.le_of_eq (hidT_size _ _), trivial, fun b hb => absurd (show b ∈ ([] : List Addr) from hb) (by simp), hok, .of_eq hg⟩
    refine codeAny_mono ((F _ hKb (nsK hns)).run callerA [] s₁ H ⟨[.ref a], []⟩ [.ref a] [.ref a] _ _ hr e0 (hbind s₁ (.ref a)) (.cons rfl .nil) (hsp H hO hS)) fun r s' h => ?_
    cases r with
    | error e => exact (hCX H e s' h).elim
    | ok fl =>
      cases fl with
      | next => exact False.elim h
      | brk => exact False.elim h
      | cont => exact False.elim h
      | ret u =>
        obtain ⟨v, H', os, bare, un, hok', r', q⟩ := h
        have q' : v = .bl true := q
        subst q'
        obtain rfl : u = Value.bool true := r'
        refine ⟨rfl, OldK.of_keep fun b o e => ?_, os, bare⟩
        cases q : H b with
        | none => exact un.keep b o e q (by intro z; exact absurd (show b ∈ ([] : List Addr) from z) (by simp)) (by simp)
        | some u =>
          rcases hO b with z | ⟨ob, xs, z⟩
          · rw [q] at z; cases z
          · have z2 := un.frzs b ob _ z
            obtain ⟨e1, _⟩ := hok b _ z
            obtain ⟨e2, _⟩ := hok' b _ z2
            rw [e] at e1; cases e1
            exact e2
  cases hk : K.lookup a with
  | some o =>
    have e := KX a o hk
    rw [ha] at e
    cases e
    refine core (fun _ => none) (fun _ => .inl rfl) (.inr ⟨_, vs.toArray, _, hk, rfl, rfl, rfl, by rw [List.size_toArray, lenV]; exact hl, by simpa using rv⟩) (fun b u z => by have z' : (none : Option HO) = some u := z; cases z') (fun b z => absurd rfl z) fun z => absurd rfl z
  | none =>
    refine core (fun b => if b = a then some (.frz { cls := .type "list", data := .seq vs.toArray } (.lst (ns.map V.int))) else none) (fun b => ?_) (.inl (.inr ⟨{ cls := .type "list", data := .seq vs.toArray }, if_pos rfl⟩)) (fun b u z => ?_) (fun b z => ?_) fun _ => hk
    · by_cases hb : b = a
      · exact .inr ⟨_, _, if_pos hb⟩
      · exact .inl (if_neg hb)
    · by_cases hb : b = a
      · have z' := (if_pos hb).symm.trans z
        cases z'
        subst hb
        exact ⟨ha, by rw [List.length_map]; exact hl, vs, _, rv, ha⟩
      · have z' := (if_neg hb).symm.trans z
        cases z'
    · by_cases hb : b = a
      · exact hb
      · exact absurd (if_neg hb) z
end L2
namespace L2
open PySem PySem.Spec PyProof.Rows
theorem walk_of {l : PySem.W.OpenLaw} {n k : Nat} {q : Program} {loose : List Str} {XP : (Str → Option Value) → Heap → Prop} {YP : World → Heap → Prop} {d : DefRec} {K : Params → PySem.W.Frag} {CX : World → CXT} {sp : World → Sp} {x : Str}
    (hn : l.most = some n) (hn2 : n ≤ sizeLine) (hdf : d.params.defaults = []) (hr : Room k callerA)
    (hY : ∀ (w : World) (h : Heap), YP w h → (K w.params).In h)
    (F : ∀ (w : World) (mg : Str → Option Value) (fa : Addr) (h : Heap), (K w.params).In h → h.Ns mainGlobals mg → mg d.name = some (.ref fa) →
      ∃ fd : FuncData, (∀ (s : Shared) (u : Value), BindsTo s fd ⟨[u], []⟩ [(x, u)]) ∧
        ∀ base : Heap, (K w.params).In base → base.Ns mainGlobals mg → FnOk l.prog w (K w.params) mg base (CX w) k fa fd [x] (sp w))
    (hsp : ∀ (w : World) (H : Hp) (a : Addr) (ns : List Int), ns.length ≤ n → Only H → SqL (K w.params) H a (ns.map V.int) → sp w [.ref a] H (fun v _ => v = .bl true) fun _ _ _ => False)
    (hCX : ∀ (w : World) (H : Hp) (s : Shared) (e : Value) (s' : Shared), CX w [] H s (fun _ _ _ => False) e s' → False) :
    PySem.W.WalkO q loose XP YP l.row.toRowW d [] (fun f vs => PySem.call f vs) := by
  refine Att.attach_call hn hdf fun w s₀ s₁ mg mb fa o pm cd doc a vs ns G Y ho hd hcd hmg hobj hints hlen hg => ?_
  have KX := hY w _ Y
  obtain ⟨fd, hb, hF⟩ := F w mg fa _ KX G.T.g hmg
  exact law_call KX G.T.g G.T.b G.T.builtins G.T.nolimit hg hobj hints (Nat.le_trans hlen hn2) hr hF hb (fun H hO hS => hsp w H a ns hlen hO hS) fun H e s' => hCX w H s₁ e s'
end L2
namespace L2
open PySem PySem.Spec PyProof.Rows
noncomputable def inClass (s : Stmt) (j : Nat) : Stmt := match s with
  | .ClassDef _ _ _ body _ _ _ _ _ _ _ => body.getD j (.Pass ⟨0, 0, 0, 0⟩)
  | _ => .Pass ⟨0, 0, 0, 0⟩
noncomputable def defArgs (s : Stmt) : Arguments := match s with
  | .FunctionDef _ a _ _ _ _ _ _ _ _ => a
  | _ => { posonlyargs := [], args := [], vararg := none, kwonlyargs := [], kw_defaults := [], kwarg := none, defaults := [] }
noncomputable def defBody (s : Stmt) : List Stmt := match s with
  | .FunctionDef _ _ b _ _ _ _ _ _ _ => b
  | _ => []
noncomputable def defScope (s : Stmt) : Scope := match s with
  | .FunctionDef _ _ _ _ _ _ sc _ _ _ => sc
  | _ => { kind := .function, names := [], isGenerator := false, isCoroutine := false }
noncomputable abbrev CX0 : CXT := fun _ _ _ _ _ _ => False
noncomputable abbrev E0 : XK := fun _ _ _ => False
structure Fun (K : PySem.W.Frag) (x qual : Str) (st : Stmt) (f : Addr) (fd : FuncData) : Prop where
  ex : ∃ (oc : Value) (od : Option Addr) (kV doc pm : Value) (an : Option Addr) (cdv ct : Value) (osl : Array (Option Value)),
    fd = PySem.W.fnOf x qual (defArgs st) (defBody st) (defScope st) .none kV doc pm an cdv ct ∧ K.lookup f = some ⟨oc, od, .func fd, osl⟩ ∧ PySem.W.codeIn K cdv qual = true
  kp : PySem.W.keepIn K (.ref f) = true
section
variable {P : Program} {w : World} {K : PySem.W.Frag} {mg : Str → Option Value} {base : Heap}
theorem Fun.ok {x qual : Str} {st : Stmt} {f : Addr} {fd : FuncData} {N ps : List Str} {k : Nat} {sp : Sp} (F : Fun K x qual st f fd) (S : FnScope N ps (defScope st)) (len : ∀ vs H Q E, sp vs H Q E → vs.length = ps.length)
    (hbody : ∀ (cdv : Value) (A : Around) (outer : List Env) (s : Shared) (H : Hp) (vs : List V) (Q : VK) (E : XK), Room k (A.deeper (envOfC qual (defScope st) s.heap.objs.size f cdv)) → sp vs H Q E →
      ∃ t, PSs (cxOf CX0 P w K mg base N qual (defScope st) f cdv A outer s H E).nox (defBody st) t ∧ t { nx := fun _ H' => Q .non H', rt := Q } (start N vs) H) : FnOk P w K mg base CX0 (k + 1) f fd ps sp := by
  obtain ⟨oc, od, kV, doc, pm, an, cdv, ct, osl, rfl, lk, hcd⟩ := F.ex
  refine fn_of lk hcd S len fun A outer s H vs Q E hr hsp => ?_
  obtain ⟨t, h, q⟩ := hbody cdv A outer s H vs Q E hr hsp
  exact ⟨t, h.nox, q⟩
theorem Fun.binds {x qual : Str} {st : Stmt} {f : Addr} {fd : FuncData} {ps : List Str} (F : Fun K x qual st f fd)
    (h : ∀ (kV doc pm : Value) (an : Option Addr) (cdv ct : Value) (us : List Value), us.length = ps.length → bindArgs (PySem.W.fnOf x qual (defArgs st) (defBody st) (defScope st) .none kV doc pm an cdv ct) ⟨us, []⟩ = pure (ps.zip us)) : Binds K fd ps [] := by
  obtain ⟨oc, od, kV, doc, pm, an, cdv, ct, osl, rfl, lk, hcd⟩ := F.ex
  exact .all (h kV doc pm an cdv ct)
theorem fun_mk {x qual : Str} {st : Stmt} {f : Addr} {oc : Value} {od an : Option Addr} {osl : Array (Option Value)} {kV doc pm cdv ct : Value} (l : K.lookup f = some ⟨oc, od, .func (PySem.W.fnOf x qual (defArgs st) (defBody st) (defScope st) .none kV doc pm an cdv ct), osl⟩)
    (c : PySem.W.codeIn K cdv qual = true) (k : PySem.W.keepIn K (.ref f) = true) : Fun K x qual st f (PySem.W.fnOf x qual (defArgs st) (defBody st) (defScope st) .none kV doc pm an cdv ct) := ⟨⟨oc, od, kV, doc, pm, an, cdv, ct, osl, rfl, l, c⟩, k⟩
end
section
variable {X : Cx}
theorem pv (i : Nat) {x : Str} {pos : Pos} (hN : X.N[i]? = some x := by rfl) (hv : Vis X.env.scope x := by first | exact Or.inl rfl | exact Or.inr (Or.inl rfl) | exact Or.inr (Or.inr rfl)) (hd : (x == ("__debug__" : Str)) = false := by decide)
    (hcd : (x == ("__classdict__" : Str)) = false := by decide) : PE X (.Name x pos) (tVar i) := pe_var hN hv hd hcd
end
theorem iteF {A B : Prop} (h : B) : if false = true then A else B := by
  rw [if_neg Bool.false_ne_true]
  exact h
theorem iteT {A B : Prop} (h : A) : if true = true then A else B := by
  rw [if_pos rfl]
  exact h
noncomputable def Same (H H' : Hp) : Prop := ∀ b o, H b = some o → H' b = some o
theorem Same.refl (H : Hp) : Same H H := fun _ _ h => h
theorem Same.trans {H H1 H2 : Hp} (a : Same H H1) (b : Same H1 H2) : Same H H2 := fun c o h => b c o (a c o h)
theorem Same.free {H H' : Hp} (e : Same H H') {l : Addr} (h : H' l = Option.none) : H l = Option.none := by
  cases q : H l with
  | none => rfl
  | some o =>
    rw [e l o q] at h
    cases h
theorem Same.seq {K : PySem.W.Frag} {H H' : Hp} {a : Addr} {xs : List V} (e : Same H H') (h : SqL K H a xs) : SqL K H' a xs := by
  rcases h with (h | ⟨o, h⟩) | h
  · exact .inl (.inl (e _ _ h))
  · exact .inl (.inr ⟨o, e _ _ h⟩)
  · exact .inr h
end L2
set_option Elab.async false
set_option linter.all false
set_option maxRecDepth 100000
set_option maxHeartbeats 4000000
namespace L2
open PySem PySem.Spec PyProof.Rows
noncomputable def closL (cells : List (Str × Addr)) : List (Str × NameKind) → List (Str × Addr) → List (Str × Addr)
  | [], acc => acc
  | (n, k) :: r, acc => if (k == NameKind.free) = true then (match cells.lookup n with | some c => closL cells r ((n, c) :: acc) | none => closL cells r acc) else closL cells r acc
theorem closL_eq {env : Env} : ∀ (names : List (Str × NameKind)) (acc : List (Str × Addr)), (∀ y ∈ names, y.2 = .free → ∃ c, env.cells.lookup y.1 = some c) →
    (forIn names acc fun (x : Str × NameKind) (r : List (Str × Addr)) => (do
      if (x.2 == NameKind.free) = true then do
        let c ← cellOf env x.1
        pure (ForInStep.yield ((x.1, c) :: r))
      else pure (ForInStep.yield r) : Sem (ForInStep (List (Str × Addr))))) = pure (closL env.cells names acc)
  | [], acc, _ => rfl
  | (n, k) :: r, acc, h => by
    rw [List.forIn_cons]
    by_cases hk : k = .free
    · subst hk
      obtain ⟨c, hc⟩ := h (n, .free) List.mem_cons_self rfl
      have e1 : cellOf env n = pure c := by unfold cellOf; rw [show env.cells.lookup n = some c from hc]
      simp only [beq_self_eq_true, if_true, e1, pure_bind, closL]
      rw [show env.cells.lookup n = some c from hc]
      exact closL_eq r _ fun y hy => h y (List.mem_cons_of_mem _ hy)
    · have hb : (k == NameKind.free) = false := by simpa using hk
      simp only [hb, Bool.false_eq_true, if_false, pure_bind, closL]
      exact closL_eq r _ fun y hy => h y (List.mem_cons_of_mem _ hy)
theorem closFor {scope : Scope} {env : Env} (h : ∀ y ∈ scope.names, y.2 = .free → ∃ c, env.cells.lookup y.1 = some c) : closureFor scope env = pure (closL env.cells scope.names []) := by
  have e := closL_eq (env := env) scope.names [] h
  unfold closureFor
  rw [← bind_pure (pure (closL env.cells scope.names []) : Sem (List (Str × Addr))), ← e]
theorem addr_ne {h : Heap} {b : Addr} {n : Nat} {o : Obj} (h1 : h.get? b = some o) (h2 : h.objs.size ≤ n) : b ≠ n := fun z => absurd (Heap.lt_size h1) (by rw [z]; exact Nat.not_lt.mpr h2)
theorem addr_lt {a : Nat} {b : Addr} {n : Nat} (h1 : b < a) (h2 : a ≤ n) : b ≠ n := fun z => absurd h1 (by rw [z]; exact Nat.not_lt.mpr h2)
theorem closL_sub {cells : List (Str × Addr)} {x : Str} {c : Addr} : ∀ {names : List (Str × NameKind)} {acc : List (Str × Addr)}, (∀ d, acc.lookup x = some d → cells.lookup x = some d) → (closL cells names acc).lookup x = some c → cells.lookup x = some c
  | [], acc, ha, h => ha c h
  | (n, k) :: r, acc, ha, h => by
    unfold closL at h
    split at h
    · split at h
      · rename_i d hd
        refine closL_sub (names := r) (fun e he => ?_) h
        by_cases hx : x = n
        · subst hx
          simp only [List.lookup_cons, beq_self_eq_true] at he
          rw [hd]; exact he
        · have hb : (x == n) = false := by simpa using hx
          simp only [List.lookup_cons, hb] at he
          exact ha e he
      · exact closL_sub (names := r) ha h
    · exact closL_sub (names := r) ha h
theorem closL_acc {cells : List (Str × Addr)} {x : Str} : ∀ {names : List (Str × NameKind)} {acc : List (Str × Addr)}, (∃ d, acc.lookup x = some d) → ∃ c, (closL cells names acc).lookup x = some c
  | [], acc, h => h
  | (n, k) :: r, acc, h => by
    unfold closL
    split
    · split
      · rename_i d hd
        refine closL_acc (names := r) ?_
        by_cases hx : x = n
        · subst hx; exact ⟨d, by simp [List.lookup_cons]⟩
        · have hb : (x == n) = false := by simpa using hx
          obtain ⟨e, he⟩ := h
          exact ⟨e, by simpa [List.lookup_cons, hb] using he⟩
      · exact closL_acc (names := r) h
    · exact closL_acc (names := r) h
theorem closL_has {cells : List (Str × Addr)} {x : Str} {c : Addr} (hc : cells.lookup x = some c) : ∀ {names : List (Str × NameKind)} {acc : List (Str × Addr)}, (x, NameKind.free) ∈ names → ∃ d, (closL cells names acc).lookup x = some d
  | [], _, h => nomatch h
  | (n, k) :: r, acc, h => by
    rcases List.mem_cons.mp h with e | h
    · cases e
      unfold closL
      rw [if_pos (by simp)]
      rw [hc]
      exact closL_acc ⟨c, by simp [List.lookup_cons]⟩
    · unfold closL
      split
      · split <;> exact closL_has hc (names := r) h
      · exact closL_has hc (names := r) h
theorem relabel_kind {env : Env} {x : Str} : ∀ {names : List (Str × NameKind)} {k : NameKind},
    (names.map fun (n, k) => if (k == NameKind.free && env.scope.kind == .function && env.kindOf n == some .cell) then (n, NameKind.cell) else (n, k)).lookup x = some k →
    names.lookup x = some k ∨ (k = .cell ∧ names.lookup x = some .free)
  | [], k, h => by simp at h
  | (n, k0) :: r, k, h => by
    have ih := @relabel_kind env x r k
    rw [List.map_cons] at h
    by_cases hx : x = n
    · subst hx
      by_cases hc : (k0 == NameKind.free && env.scope.kind == .function && env.kindOf x == some .cell) = true
      · simp only [hc, if_true, List.lookup_cons, beq_self_eq_true] at h
        have h0 : k0 = .free := by
          simp only [Bool.and_eq_true, beq_iff_eq] at hc
          exact hc.1.1
        subst h0
        cases h
        exact .inr ⟨rfl, by simp [List.lookup_cons]⟩
      · have hc' : (k0 == NameKind.free && env.scope.kind == .function && env.kindOf x == some .cell) = false := by simpa using hc
        simp only [hc', Bool.false_eq_true, if_false, List.lookup_cons, beq_self_eq_true] at h
        cases h
        exact .inl (by simp [List.lookup_cons])
    · have hb : (x == n) = false := by simpa using hx
      have e1 : ∀ (c : Bool), List.lookup x ((if c = true then (n, NameKind.cell) else (n, k0)) :: (r.map fun (n, k) => if (k == NameKind.free && env.scope.kind == .function && env.kindOf n == some .cell) then (n, NameKind.cell) else (n, k))) = List.lookup x (r.map fun (n, k) => if (k == NameKind.free && env.scope.kind == .function && env.kindOf n == some .cell) then (n, NameKind.cell) else (n, k)) := fun c => by
        cases c <;> simp [List.lookup_cons, hb]
      have h' := (e1 _).symm.trans h
      rcases ih h' with q | ⟨q1, q2⟩
      · exact .inl (by simpa [List.lookup_cons, hb] using q)
      · exact .inr ⟨q1, by simpa [List.lookup_cons, hb] using q2⟩
theorem mem_of_look {x : Str} {k : NameKind} : ∀ {names : List (Str × NameKind)}, names.lookup x = some k → (x, k) ∈ names
  | [], h => by simp at h
  | (n, k0) :: r, h => by
    by_cases hx : x = n
    · subst hx
      simp only [List.lookup_cons, beq_self_eq_true] at h
      cases h; exact List.mem_cons_self
    · have hb : (x == n) = false := by simpa using hx
      simp only [List.lookup_cons, hb] at h
      exact List.mem_cons_of_mem _ (mem_of_look h)
noncomputable def subSt (k : Nat) (js : List Nat) (σ : St) : St := List.replicate k none ++ js.map fun j => (σ[j]?).join
noncomputable def compCx (X : Cx) (N' : List Str) (scope : Scope) (C : Addr) (s₂ : Shared) (H₂ : Hp) (fp : List Addr) : Cx where
  prog := X.prog
  w := X.w
  K := X.K
  mg := X.mg
  base := X.base
  A := X.A
  N := N'
  s₀ := s₂
  H₀ := H₂
  env := compEnvC scope (closL X.env.cells scope.names []) C X.env
  outer := X.stack
  stack := X.stack
  ex := fp
  fn := fun _ => false
  calm := X.calm
  pn := []
  xe := fun _ _ => False
structure CompFit (X : Cx) (k : Nat) (js : List Nat) (N' : List Str) (scope : Scope) : Prop where
  kind : scope.kind = .function
  nocell : ∀ y ∈ scope.names, y.2 ≠ .cell
  loc : ∀ y ∈ scope.names, y.2 = .local → scope.names.lookup y.1 = some .local
  free : ∀ y ∈ scope.names, y.2 = .free → X.env.kindOf y.1 = some .cell ∨ X.env.kindOf y.1 = some .free
  len : N'.length = k + js.length
  at' : ∀ (i : Nat) (x : Str), N'[i]? = some x → k ≤ i → ∃ j, js[i - k]? = some j ∧ X.N[j]? = some x ∧ (X.env.kindOf x = some .cell ∨ X.env.kindOf x = some .free) ∧ scope.names.lookup x = some .free
section
variable {X : Cx} {pins : List (Addr × Obj)} {σ : St} {H : Hp} {s : Shared} {k : Nat} {js : List Nat} {N' : List Str} {scope : Scope}
theorem comp_ok {C : Addr} {fp : List Addr} (I : Inv X pins σ H s) (S : CompFit X k js N' scope) (hC : s.heap.objs.size ≤ C) (hf : ∀ b ∈ fp, FpOk X pins H b ∧ b < s.heap.objs.size) : (compCx X N' scope C s H fp).Ok where
  mod := I.ok.mod
  kind := S.kind
  glob := I.ok.glob
  blt := I.ok.blt
  above := hC
  inj := fun x y c h1 h2 => I.ok.inj x y c (closL_sub (fun d hd => by simp at hd) h1) (closL_sub (fun d hd => by simp at hd) h2)
  has := fun x hx => by
    have hx' : (relabel scope X.env).names.lookup x = some .cell ∨ (relabel scope X.env).names.lookup x = some .free := hx
    have hfree : scope.names.lookup x = some .free := by
      rcases hx' with h | h
      · rcases relabel_kind h with q | ⟨_, q⟩
        · exact absurd rfl (S.nocell _ (mem_of_look q))
        · exact q
      · rcases relabel_kind h with q | ⟨e, _⟩
        · exact q
        · cases e
    obtain ⟨c, hc⟩ := I.ok.has x (S.free _ (mem_of_look hfree) rfl)
    exact closL_has hc (mem_of_look hfree)
  cab := fun x c h _ => nomatch h
  hd := I.ok.hd
  frames := I.ok.frames
  stk := .inl rfl
  exf := fun b hb => ⟨fun e => absurd (hf b hb).2 (by have e' : b = C := e; rw [e']; exact Nat.not_lt.mpr hC), fun x c h => (hf b hb).1.2.2.2.2.1 x c (closL_sub (fun d hd => by simp at hd) h)⟩
  bs := I.bs
  bsz := Nat.le_trans I.ok.bsz I.sz
  noex := fun b o e hb => by
    rcases (hf b hb).1.2.2.2.1 with z | z
    · exact I.ok.noex b o e z
    · exact absurd (Nat.lt_of_lt_of_le (Heap.lt_size e) (Nat.le_trans I.ok.bsz z)) (Nat.lt_irrefl _)
  exfs := fun b hb z => by
    rcases List.mem_cons.mp (I.stkSub b z) with e | e
    · exact (hf b hb).1.2.1 e
    · exact (hf b hb).1.2.2.1 e
  funs := I.stack
  frf := I.stkFree
theorem comp_start {C : Addr} {fp : List Addr} {h₁ : Heap} {tk : Nat} {m : Str → Option Value} (I : Inv X pins σ H s) (S : CompFit X k js N' scope) (hC : s.heap.objs.size ≤ C) (hf : ∀ b ∈ fp, FpOk X pins H b ∧ b < s.heap.objs.size)
    (old : ∀ b o, s.heap.get? b = some o → h₁.get? b = some o) (hn : h₁.Ns C m) : Inv (compCx X N' scope C s H fp) [] (subSt k js σ) H { s with heap := h₁, toks := tk } := by
  refine ⟨comp_ok I S hC hf, rfl, I.bare, Un.kept old, ⟨m, hn, fun i x v h1 h2 h3 => ?_⟩, fun x c h => ?_, I.hok.fresh hC, fun x c h => I.freeC x c (closL_sub (fun d hd => by simp at hd) h), fun p hp => absurd (show p ∈ ([] : List (Addr × Obj)) from hp) (by simp), I.hok.kept old, ?_⟩
  · have hi : k ≤ i := by
      by_cases hi : k ≤ i
      · exact hi
      · unfold subSt at h2
        rw [List.getElem?_append_left (by simp; lia), List.getElem?_replicate] at h2
        split at h2 <;> cases h2
    obtain ⟨j, hj, hN, hk, hfree⟩ := S.at' i x h1 hi
    have hσ : σ[j]? = some (some v) := by
      unfold subSt at h2
      rw [List.getElem?_append_right (by simpa using hi), List.length_replicate, List.getElem?_map, hj] at h2
      simp only [Option.map_some] at h2
      have h2' : (σ[j]?).join = some v := Option.some.inj h2
      cases e : σ[j]? with
      | none => rw [e] at h2'; cases h2'
      | some z => rw [e] at h2'; simp only [Option.join] at h2'; rw [← h2']; rfl
    obtain ⟨m0, hn0, hl⟩ := I.loc
    have hv : Vis X.env.scope x := by
      rcases hk with h | h
      · exact .inr (.inl h)
      · exact .inr (.inr h)
    obtain ⟨u, r, l⟩ := hl j x v hN hσ hv
    refine ⟨u, r, ?_⟩
    rcases l with ⟨hk', _⟩ | ⟨_, c, hc, hcell⟩
    · rcases hk with h | h <;> (rw [hk'] at h; cases h)
    · obtain ⟨d, hd⟩ := closL_has (names := scope.names) (acc := []) hc (mem_of_look hfree)
      have hdc : d = c := Option.some.inj ((closL_sub (fun d hd => by simp at hd) hd).symm.trans hc)
      subst hdc
      refine .inr ⟨?_, d, hd, hcell.keeps old⟩
      have h3' : (relabel scope X.env).names.lookup x = some .local ∨ (relabel scope X.env).names.lookup x = some .cell ∨ (relabel scope X.env).names.lookup x = some .free := h3
      rcases h3' with h | h | h
      · rcases relabel_kind h with q | ⟨e, _⟩
        · rw [hfree] at q; cases q
        · cases e
      · exact .inl h
      · exact .inr h
  · obtain ⟨v, hv⟩ := I.cell x c (closL_sub (fun d hd => by simp at hd) h)
    exact ⟨v, hv.keeps old⟩
  · unfold subSt
    show _ = N'.length
    rw [List.length_append, List.length_replicate, List.length_map, S.len]
end
section
variable {prog : Program} {w : World} {A : Around} {R : Result → Shared → Prop} {s : Shared}
noncomputable def NoX : Value → Shared → Prop := fun _ _ => False
theorem comp_turns {elt target iter : Expr} {ifs : List Expr} {scope : Scope} {pos : Pos} {it acc : Value} {env : Env} (I : Nat → Shared → Prop)
    (turn : ∀ n s, I n s → wpAny (model prog w) A (pyNext it) (fun r s₁ => match r with
      | none => R (.ok .next) s₁
      | some v => wpAny (model prog w) A (letOwnedTupleGo target it v) (fun _ s₁' => wpAny (model prog w) A (assign target env v) (fun _ s₂ =>
          wpAny (model prog w) A (forIn ifs true fun c r => if r = true then (do let ok ← isTrue c env (eval c env); pure (ForInStep.yield ok)) else pure (ForInStep.yield r)) (fun ok s₃ =>
            if ok = true then wpAny (model prog w) A (eval elt env) (fun x s₄ => wpAny (model prog w) A (call (.builtin "list.append") [acc, x]) (fun _ s₅ => ∃ m, m < n ∧ I m s₅) NoX s₄) NoX s₃
            else ∃ m, m < n ∧ I m s₃) NoX s₂) NoX s₁') NoX s₁) NoX s)
    (n : Nat) (h : I n s) : codeAny (model prog w) A (.compLoop (.ListComp elt [⟨target, iter, ifs, 0⟩] scope pos) 0 it acc env) R s := by
  refine codeAny_loop rfl I (fun n s hI => ?_) n h
  refine wpAny_noted (m := compTurn (.ListComp elt [⟨target, iter, ifs, 0⟩] scope pos) 0 it acc env) ?_
  rw [compTurn_list]
  refine wpAny_bind (wpAny_standAt (wpAny_bind (wpAny_mono (turn n s hI) (fun r s₁ h₁ => ?_) fun _ _ h' => h'.elim)))
  cases r with
  | none => exact wpAny_pure h₁
  | some v =>
    refine wpAny_bind (wpAny_mono h₁ (fun _ s₁' h₁' => ?_) fun _ _ h' => h'.elim)
    refine wpAny_bind (wpAny_mono h₁' (fun _ s₂ h₂ => wpAny_bind (wpAny_mono h₂ (fun ok s₃ h₃ => ?_) fun _ _ h' => h'.elim)) fun _ _ h' => h'.elim)
    cases ok with
    | false => exact wpAny_pure ⟨rfl, h₃⟩
    | true =>
      refine wpAny_bind (wpAny_bind (wpAny_mono h₃ (fun x s₄ h₄ => ?_) fun _ _ h' => h'.elim))
      exact wpAny_bind (wpAny_mono h₄ (fun _ s₅ h₅ => wpAny_pure (wpAny_pure ⟨rfl, h₅⟩)) fun _ _ h' => h'.elim)
end
noncomputable def PF (X : Cx) (ifs : List Expr) (t : TT) : Prop :=
  ∀ (pins : List (Addr × Obj)) (s : Shared) (σ : St) (H : Hp) (Q : Bool → Hp → Prop), Inv X pins σ H s → t σ H Q →
    wpAny (model X.prog X.w) X.A (forIn ifs true fun c r => if r = true then (do let ok ← isTrue c X.env (eval c X.env); pure (ForInStep.yield ok)) else pure (ForInStep.yield r)) (TP X pins σ Q) X.xe s
noncomputable def tYes : TT := fun _ H Q => Q true H
theorem pf_nil {X : Cx} : PF X [] tYes := fun _ _ _ H _ I h => wpAny_tests_nil ⟨H, I, h⟩
theorem pf_one {X : Cx} {c : Expr} {t : TT} (h : PT X c t) : PF X [c] t := fun pins s σ H Q I hw => wpAny_tests_one (h pins s σ H Q I hw)
noncomputable def tComp (wi : TI) (k : Nat) (js : List Nat) (g : TG) (tc : TT) (te : TE) : TE := fun σ H Q => wi σ H fun J H1 => ∃ W : Nat → Nat → St → Hp → List V → Prop, (∃ m, W 0 m (subSt k js σ) H1 []) ∧ ∀ i m σ' H' xs, W i m σ' H' xs →
  (J.stop i H' ∧ xs.length ≤ sizeLine ∧ ∀ p, H' p = none → Q (.ref p) (upd H' p (.lst xs))) ∨
  (J.go i H' ∧ xs.length < sizeLine ∧ ∀ x H2, J.yld i H' x H2 → g x σ' H2 fun σ2 H3 => tc σ2 H3 fun b H4 => if b = true then te σ2 H4 fun v H5 => ∃ m', m' < m ∧ W (i + 1) m' σ2 H5 (xs ++ [v]) else ∃ m', m' < m ∧ W (i + 1) m' σ2 H4 xs)
section
variable {X : Cx} {k : Nat} {js : List Nat} {N' : List Str} {scope : Scope} {elt tg iter : Expr} {ifs : List Expr} {pos : Pos} {wi : TI} {g : TG} {tc : TT} {te : TE}
theorem pe_comp (S : CompFit X k js N' scope) (hc : X.calm = true) (hi : PI X tg iter wi)
    (hg : ∀ C s₂ H₂ fp, PG (compCx X N' scope C s₂ H₂ fp) tg g) (hf : ∀ C s₂ H₂ fp, PF (compCx X N' scope C s₂ H₂ fp) ifs tc) (he : ∀ C s₂ H₂ fp, PE (compCx X N' scope C s₂ H₂ fp) elt te)
    (hs : ∀ x, foldedSetIterable iter X.env x = pure x := by intro _; rfl) : PE X (.ListComp elt [⟨tg, iter, ifs, 0⟩] scope pos) (tComp wi k js g tc te) := by
  intro pins s σ H Q I h
  rw [eval_ListComp]
  refine wpAny_comprehension_free (use := none) rfl hs (closFor fun y hy hk => I.ok.has y.1 (S.free y hy hk)) S.kind S.loc ?_
  refine thn (hi pins s σ H _ I h) fun v s1 h1 => thn h1 fun itv s₂ h2 => ?_
  obtain ⟨it, fp, tn, J, H₂, rfl, I2, T, st2, f2, W, ⟨m0, w0⟩, turn⟩ := h2
  have lt2 : ∀ b ∈ fp, b < s₂.heap.objs.size := fun b hb => by obtain ⟨o, e, _⟩ := T.obj 0 _ st2 b hb; exact Heap.lt_size e
  refine wpAny_newObj_type (wpAny_newFunctionEnv S.nocell (by intro y hy; simp at hy) (fun h₁ hns₁ hsb₁ => ?_) S.kind)
  dsimp only at hns₁ hsb₁ ⊢
  generalize hH2 : s₂.heap.push { cls := .type "list", dict := none, data := .seq ([] : List Value).toArray } = G at hns₁ hsb₁ ⊢
  have hC : G.objs.size = s₂.heap.objs.size + 1 := by rw [← hH2, Heap.size_push]
  have hDC : s₂.heap.objs.size ≠ G.objs.size := by lia
  have hCle : s₂.heap.objs.size ≤ G.objs.size := by lia
  have old : ∀ b o, s₂.heap.get? b = some o → h₁.get? b = some o := fun b o e => hsb₁.extBut b o (addr_ne e hCle) (Heap.get?_push_of_some _ (hH2 ▸ Heap.get?_push_of_some _ e))
  have hacc : h₁.get? s₂.heap.objs.size = some { cls := .type "list", data := .seq ([] : List Value).toArray } := hsb₁.extBut _ _ hDC (Heap.get?_push_of_some _ (hH2 ▸ Heap.get?_push_size _ rfl))
  have hf2 : ∀ b ∈ fp, FpOk X pins H₂ b ∧ b < s₂.heap.objs.size := fun b hb => ⟨f2 b hb, lt2 b hb⟩
  have I0 : ∀ tk, Inv (compCx X N' scope G.objs.size s₂ H₂ fp) [] (subSt k js σ) H₂ { s₂ with heap := h₁, toks := tk } := fun tk => comp_start I2 S hCle hf2 old hns₁
  generalize hD : s₂.heap.objs.size = D at *
  have hDnone : ∀ {H' : Hp} {s' : Shared} {σ' : St} {pp : List (Addr × Obj)} {o : Obj}, Inv (compCx X N' scope G.objs.size s₂ H₂ fp) (pp ++ [(D, o)]) σ' H' s' → H' D = none ∧ s'.heap.get? D = some o := fun {H' s' σ' pp o} J => by
    have q := J.pin (D, o) (List.mem_append_right _ (List.mem_append_right _ (List.mem_singleton.mpr rfl)))
    exact ⟨q.2.1, q.1⟩
  have hDfs : D ∉ frs X.stack := fun z => by
    obtain ⟨_, o, ho, _⟩ := I2.stack.mem z
    exact addr_ne ho (Nat.le_of_eq hD) rfl
  have hDcell : ∀ x c, (compCx X N' scope G.objs.size s₂ H₂ fp).env.cells.lookup x = some c → c ≠ D := fun x c e z => by
    obtain ⟨v, q⟩ := I2.cell x c (closL_sub (fun d hd => by simp at hd) e)
    exact addr_lt q.lt (Nat.le_of_eq hD) z
  have stat : ∀ {H' : Hp} {pp : List (Addr × Obj)}, (∀ b ∈ fp, H' b = none) → (∀ p ∈ pp, p.1 = D) → ∀ b ∈ fp, FpOk (compCx X N' scope G.objs.size s₂ H₂ fp) pp H' b := fun {H' pp} hn hp b hb => by
    refine ⟨hn b hb, fun z => ?_, fun z => ?_, .inl hb, fun x c e => (hf2 b hb).1.2.2.2.2.1 x c (closL_sub (fun d hd => by simp at hd) e), fun p hp' z => ?_⟩
    · exact addr_lt (lt2 b hb) hCle z
    · rcases List.mem_cons.mp (I2.stkSub b z) with e | e
      · exact (hf2 b hb).1.2.1 e
      · exact (hf2 b hb).1.2.2.1 e
    · have e1 : p.1 = D := hp p (by simpa [compCx] using hp')
      exact addr_lt (lt2 b hb) (Nat.le_refl _) (z.symm.trans e1)
  have pinD : ∀ {σ' : St} {H' : Hp} {s' : Shared} {ys : List Value} {c : Nat}, Inv (compCx X N' scope G.objs.size s₂ H₂ fp) [] σ' H' s' → s'.heap.get? D = some { cls := .type "list", data := .seq ys.toArray c } → H' D = none →
      Inv (compCx X N' scope G.objs.size s₂ H₂ fp) [(D, { cls := .type "list", data := .seq ys.toArray c })] σ' H' s' := fun {σ' H' s' ys c} J e n => J.pins_of fun p hp => by
    have e1 := List.mem_singleton.mp hp
    subst e1
    exact ⟨e, n, hDC, hDfs, fun v z => by cases z⟩
  have loop : ∀ s₃ : Shared, (∃ tk, s₃ = { s₂ with heap := h₁, toks := tk }) → codeAny (model X.prog X.w) X.A (.compLoop (.ListComp elt [⟨tg, iter, ifs, 0⟩] scope pos) 0 (.ref it) (.ref D) (compCx X N' scope G.objs.size s₂ H₂ fp).env)
      (compPost (model X.prog X.w) X.A X.xe none (EP X pins σ Q) (.ref D) G.objs.size) s₃ := by
    rintro s₃ ⟨tk, rfl⟩
    refine comp_turns (fun n s' => ∃ i σ' H' xs ys c, Inv (compCx X N' scope G.objs.size s₂ H₂ fp) [] σ' H' s' ∧ tn i s'.heap ∧ (∀ b ∈ fp, H' b = none) ∧ H' D = none ∧ s'.heap.get? D = some { cls := .type "list", data := .seq ys.toArray c } ∧ Vals xs ys ∧ W i n σ' H' xs)
      ?_ m0 ⟨0, _, H₂, [], [], 0, I0 tk, T.keep _ _ _ st2 fun b hb o e => old b o e, fun b hb => (f2 b hb).1, I2.hok.fresh (by lia), hacc, .nil, w0⟩
    rintro n s' ⟨i, σ', H', xs, ys, c, J', st', fr', nD, eD, rv, w'⟩
    have J1 := pinD J' eD nD
    rcases turn i n σ' H' xs w' with ⟨stop, hz, fin⟩ | ⟨go, hz, step⟩
    · refine thn (T.done (compCx X N' scope G.objs.size s₂ H₂ fp) rfl rfl rfl hc i _ s' σ' H' _ J1 (stat fr' fun p hp => by rw [List.mem_singleton.mp hp]) st' stop) fun r s4 ⟨hr, J4⟩ => ?_
      subst hr
      obtain ⟨nD4, eD4⟩ := hDnone (pp := []) J4
      obtain ⟨mC, hnC, _⟩ := J4.loc
      refine ⟨mC, hnC, fun h' hs' => ?_⟩
      have keep4 : ∀ b o, b ≠ G.objs.size → s4.heap.get? b = some o → h'.get? b = some o := fun b o hb e => hs'.extBut b o hb e
      have hC4 : H' G.objs.size = none := J4.free
      have hun : Un (frs X.stack) fp H₂ (upd H' D (.lst xs)) s₂.heap h' := by
        have u := J4.base
        have neD : ∀ b o, s₂.heap.get? b = some o → b ≠ D := fun b o e => addr_ne e (Nat.le_of_eq hD)
        have neC : ∀ b o, s₂.heap.get? b = some o → b ≠ G.objs.size := fun b o e => addr_ne e (by rw [hD]; exact hCle)
        have neD' : ∀ b o, H₂ b = some o → b ≠ D := fun b o e => addr_lt (I2.hok.lt e) (Nat.le_of_eq hD)
        refine ⟨fun b o e n hb hx => keep4 b o (neC b o e) (u.keep b o e n hb hx), fun b o e n hb hx => ?_, fun b o e n hx => by rw [upd_ne (neD b o e)]; exact u.free b o e n hx, fun b o e hx => ?_,
          fun b xs e => by rw [upd_ne (neD' b _ e)]; exact u.tups b xs e, fun b o z e => by rw [upd_ne (neD' b _ e)]; exact u.frzs b o z e, fun b ps e => by rw [upd_ne (neD' b _ e)]; exact u.tbls b ps e⟩
        · obtain ⟨sl, q⟩ := u.slot b o e n hb hx
          exact ⟨sl, keep4 b _ (neC b o e) q⟩
        · obtain ⟨o', q⟩ := u.there b o e hx
          exact ⟨o', keep4 b _ (neC b o e) q⟩
      have hok4 : HOk X.prog X.w (upd H' D (.lst xs)) h' := by
        intro b u e
        by_cases hb : b = D
        · subst hb
          rw [upd_same] at e
          cases e
          exact ⟨hz, ys, c, rv, keep4 _ _ hDC eD4⟩
        · rw [upd_ne hb] at e
          have hnD : ∀ a o, H' a = some o → a ≠ D := fun a o e z => by rw [z, nD4] at e; cases e
          refine (J4.hok b u e).stay (fun a v ha q => keep4 a v ?_ q) (fun a q => by rw [upd_ne (hnD a _ q)]; exact q) fun a zs q => by rw [upd_ne (hnD a _ q)]; exact q
          rintro rfl
          rcases ha with z | z
          · rw [← z, hC4] at e; cases e
          · rw [hC4] at z; cases z
      refine ⟨.ref D, upd H' D (.lst xs), I2.call' (s' := { s4 with heap := h' }) J4.os hun hok4 J4.bare fun b hb => ?_, rfl, fin D nD4⟩
      exact ⟨(f2 b hb).2.2.2.1, (f2 b hb).2.1, (f2 b hb).2.2.2.2.1, (f2 b hb).2.2.2.2.2⟩
    · refine thn (T.item (compCx X N' scope G.objs.size s₂ H₂ fp) rfl rfl rfl hc i _ s' σ' H' NoX J1 (stat fr' fun p hp => by rw [List.mem_singleton.mp hp]) st' go) fun r s4 ⟨u, hr, h4⟩ => ?_
      subst hr
      refine thn h4 fun _ s5 ⟨x, H5, I5, r5, y5, st5, fr5⟩ => ?_
      have I5' := I5.pinned (stat fr5 fun p hp => by rw [List.mem_singleton.mp hp]) (T.obj _ _ st5)
      refine thn (hg _ _ _ _ _ s5 σ' H5 x u _ I5' r5 (step x H5 y5)) fun _ s6 ⟨σ6, H6, I6, q6⟩ => ?_
      refine thn (hf _ _ _ _ _ s6 σ6 H6 _ I6 q6) fun ok s7 ⟨H7, I7, q7⟩ => ?_
      have back : ∀ {σ8 : St} {H8 : Hp} {s8 : Shared}, Inv (compCx X N' scope G.objs.size s₂ H₂ fp) ([(D, { cls := .type "list", data := .seq ys.toArray c })] ++ pinsAt fp s5.heap) σ8 H8 s8 →
          Inv (compCx X N' scope G.objs.size s₂ H₂ fp) [] σ8 H8 s8 ∧ tn (i + 1) s8.heap ∧ (∀ b ∈ fp, H8 b = none) ∧ H8 D = none ∧ s8.heap.get? D = some { cls := .type "list", data := .seq ys.toArray c } := fun {σ8 H8 s8} J => by
        have pd := J.pin (D, { cls := .type "list", data := .seq ys.toArray c }) (List.mem_append_right _ (List.mem_append_left _ (List.mem_singleton.mpr rfl)))
        have pf : ∀ b ∈ fp, ∀ o, s5.heap.get? b = some o → s8.heap.get? b = some o ∧ H8 b = none := fun b hb o e => by
          have q := J.pin (b, o) (List.mem_append_right _ (List.mem_append_right _ (mem_pinsAt hb e)))
          exact ⟨q.1, q.2.1⟩
        refine ⟨J.pins_of fun p hp => absurd hp (by simp), T.keep _ _ _ st5 fun b hb o e => (pf b hb o e).1, fun b hb => ?_, pd.2.1, pd.1⟩
        obtain ⟨o, e, _⟩ := T.obj _ _ st5 b hb
        exact (pf b hb o e).2
      cases ok with
      | false =>
        simp only [Bool.false_eq_true, if_false] at q7 ⊢
        obtain ⟨m', hm, w7⟩ := q7
        obtain ⟨b1, b2, b3, b4, b5⟩ := back I7
        exact ⟨m', hm, i + 1, σ6, H7, xs, ys, c, b1, b2, b3, b4, b5, rv, w7⟩
      | true =>
        simp only [if_true] at q7 ⊢
        refine thn (he _ _ _ _ _ s7 σ6 H7 _ I7 q7) fun u8 s8 ⟨v8, H8, I8, r8, q8⟩ => ?_
        obtain ⟨m', hm, w8⟩ := q8
        obtain ⟨b1, b2, b3, b4, b5⟩ := back I8
        refine append_at b5 (fun h9 hs9 e9 => ?_) (by rw [List.size_toArray, ← rv.length]; exact Nat.le_of_lt hz)
        have I9 : Inv (compCx X N' scope G.objs.size s₂ H₂ fp) [] σ6 H8 { s8 with heap := h9 } := b1.turned (t' := s8.toks) (it := D) (fun b o hb e => (hs9.2 b hb).trans e) b4 hDC (.inr (by show s₂.heap.objs.size ≤ D; lia)) hDcell fun p hp => absurd (show p ∈ ([] : List (Addr × Obj)) from hp) (by simp)
        refine ⟨m', hm, i + 1, σ6, H8, xs ++ [v8], ys ++ [u8], c + 1, I9, T.keep _ _ _ b2 fun b hb o e => (hs9.2 b ?_).trans e, b3, b4, ?_, Vals.append rv (.cons r8 .nil), w8⟩
        · exact addr_lt (lt2 b hb) (Nat.le_refl _)
        · rw [e9, List.push_toArray]
  exact codeAny_compStart_list (loop _ ⟨_, rfl⟩) (T.self _ 0 _ _ _ (T.keep _ _ _ st2 fun b hb o e => old b o e) (loop _ ⟨_, rfl⟩))
end
end L2
set_option Elab.async false
set_option linter.all false
set_option maxRecDepth 100000
set_option maxHeartbeats 4000000
namespace L3
open PySem PySem.Spec PyProof.Rows
noncomputable def cI (st : Bool) (i j : Int) : Bool := if st = true then decide (i < j) else decide (i ≤ j)
noncomputable def cS (st : Bool) (x y : Str) : Bool := if st = true then decide (x.cps.toList < y.cps.toList) else !decide (y.cps.toList < x.cps.toList)
mutual
noncomputable def cD (st : Bool) : PyData → PyData → Option Bool
  | .int i, .int j => some (cI st i j)
  | .str x, .str y => some (cS st x y)
  | .tuple xs, .tuple ys => cL st xs ys
  | _, _ => none
noncomputable def cL (st : Bool) : List PyData → List PyData → Option Bool
  | [], [] => some (!st)
  | [], _ :: _ => some true
  | _ :: _, [] => some false
  | x :: xs, y :: ys => if PyData.eqv x y = true then cL st xs ys else cD st x y
end
noncomputable def cOp (st : Bool) : CmpOp := if st = true then .Lt else .LtE
noncomputable def RcL (A : Around) (s : Shared) (st : Bool) (a b : Value) (k : Bool) : Prop :=
  ∀ (prog : Program) (w : World) (E : Value → Shared → Prop) (Q : Value → Shared → Prop), Q (.bool k) s → wpAny (model prog w) A (richCompare (cOp st) a b) Q E s
theorem cL_sizes {st : Bool} {k : Bool} : ∀ {xs ys : List PyData} {vs ws : List Value} {as bs : List Addr} {h : Heap}, ReadsAll h vs xs as → ReadsAll h ws ys bs → vs.zip ws = [] → cL st xs ys = some k →
    k = (if st = true then decide (vs.length < ws.length) else decide (vs.length ≤ ws.length))
  | _, _, _, _, _, _, _, .nil, .nil, _, e => by
    unfold cL at e; cases e; cases st <;> rfl
  | _, _, _, _, _, _, _, .nil, .cons _ _, _, e => by
    unfold cL at e; cases e; cases st <;> simp
  | _, _, _, _, _, _, _, .cons _ _, .nil, _, e => by
    unfold cL at e; cases e; cases st <;> simp
  | _, _, _, _, _, _, _, .cons _ _, .cons _ _, z, _ => by cases z
section
open PySem.SeqAt
open PySem.AutoSeq1 (wpAny_loadPart')
open PySem.MeetsSeq PySem.MeetsSeq2 PySem.MeetsSeq3
theorem tuple_lt_data (l b : Addr) (items items2 : Array Value) (n n2 : Nat) (dd dd2 : Option Addr) (sl sl2 : Array (Option Value)) (xs ys : List PyData) (k : Bool) (hk : cL true xs ys = some k)
    (ih : ∀ (A : Around) (s : Shared) (x y : PyData) (a c : Value) (as bs : List Addr) (j : Bool), x ∈ xs → Reads s.heap a x as → Reads s.heap c y bs → x.canLay0 = true → y.canLay0 = true → A.units + x.depth < cLine → cD true x y = some j → RcL A s true a c j) :
    Meets (Builtin.«tuple.__lt__» ⟨[.ref l, .ref b], []⟩)
      (fun A R s => s.heap.get? l = some { cls := .type "tuple", dict := dd, data := .seq items n, slots := sl } ∧ s.heap.get? b = some { cls := .type "tuple", dict := dd2, data := .seq items2 n2, slots := sl2 } ∧
        (∃ as, ReadsAll s.heap items.toList xs as) ∧ (∃ as, ReadsAll s.heap items2.toList ys as) ∧ PyData.canLayAll0 xs = true ∧ PyData.canLayAll0 ys = true ∧ A.units + 1 + PyData.depthAll xs < cLine ∧ R (.ok (.ret (.bool k))) s) :=
  .of_wp fun prog w A R s h => by
    obtain ⟨hp, g, d, tk, os⟩ := s; obtain ⟨hl, hb, ⟨as, hi⟩, ⟨bs, hj⟩, c1, c2, hu, h⟩ := h
    have f2 := AutoSeq1.sub_tuple_tuple
    wp_walk using wpAny_loadPart' hl, wpAny_loadPart' hb, wpAny_forIn_list _ (fun rest b s' => b.1 = none ∧ s' = ⟨hp, g, d, tk, os⟩ ∧ ∃ (vs ws : List Value) (xs' ys' : List PyData) (as' bs' : List Addr), rest = vs.zip ws ∧
      ReadsAll hp vs xs' as' ∧ ReadsAll hp ws ys' bs' ∧ vs.length + items2.size = ws.length + items.size ∧ (∀ x ∈ xs', x ∈ xs) ∧ PyData.canLayAll0 xs' = true ∧ PyData.canLayAll0 ys' = true ∧ PyData.depthAll xs' ≤ PyData.depthAll xs ∧ cL true xs' ys' = some k) _
    case turn =>
      rintro ⟨y, x⟩ rest b s' ⟨hb', rfl, vs, ws, xs', ys', as', bs', hz, hvi, hwi, hlen, hsub, l1, l2, hdp, hc⟩
      cases hvi with
      | nil => rw [List.zip_nil_left] at hz; cases hz
      | @cons v1 vs1 x1 xs1 a1 as1 rv hvi' =>
        cases hwi with
        | nil => rw [List.zip_nil_right] at hz; cases hz
        | @cons w1 ws1 y1 ys1 b1 bs1 rw1 hwi' =>
          rw [List.zip_cons_cons] at hz
          injection hz with hyx hrest
          injection hyx with hy hx
          subst hy hx
          unfold PyData.canLayAll0 at l1 l2
          rw [Bool.and_eq_true] at l1 l2
          unfold cL at hc
          have hdc : PyData.depthAll (x1 :: xs1) = max x1.depth (PyData.depthAll xs1) := by rw [PyData.depthAll]
          rw [hdc] at hdp
          simp only [List.length_cons] at hlen
          have he := eqAt_reads x1 y1 A.in1 ⟨hp, g, d, tk, os⟩ _ _ _ _ rv rw1 l1.1 l2.1 (by show A.units + 1 + _ < cLine; lia)
          refine wpAny_bind (he prog w _ _ ?_)
          cases e : PyData.eqv x1 y1 with
          | true =>
            rw [e, if_pos rfl] at hc
            wp_walk
            exact ⟨rfl, rfl, _, _, _, _, _, _, hrest, hvi', hwi', by lia, fun z hz => hsub z (List.mem_cons_of_mem _ hz), l1.2, l2.2, by lia, hc⟩
          | false =>
            rw [e, if_neg Bool.false_ne_true] at hc
            have hri : ∀ (E : Value → Shared → Prop) (Q : Value → Shared → Prop), Q (.bool k) ⟨hp, g, d, tk, os⟩ → wpAny (model prog w) A.in1 (richCompare .Lt _ _) Q E ⟨hp, g, d, tk, os⟩ := ih A.in1 ⟨hp, g, d, tk, os⟩ x1 y1 _ _ _ _ k (hsub x1 List.mem_cons_self) rv rw1 l1.1 l2.1 (by show A.units + 1 + _ < cLine; lia) hc prog w
            wp_walk using hri
            exact ⟨_, rfl, by simpa using h⟩
    case fin =>
      rintro ⟨b1, b2⟩ s' ⟨hb', rfl, vs, ws, xs', ys', as', bs', hz, hvi, hwi, hlen, hsub, l1, l2, hdp, hc⟩
      simp only at hb'
      subst hb'
      have hv := cL_sizes hvi hwi hz.symm hc
      simp only [if_true] at hv
      have hv2 : decide (vs.length < ws.length) = decide (items.size < items2.size) := by
        by_cases q : vs.length < ws.length
        · rw [decide_eq_true q, decide_eq_true (by lia)]
        · rw [decide_eq_false q, decide_eq_false (by lia)]
      rw [hv2] at hv
      rw [hv] at h
      wp_walk
      exact ⟨_, rfl, by simpa [Builtin.Tuple.tupleCompareSizes] using h⟩
    case h =>
      exact ⟨rfl, rfl, items.toList, items2.toList, xs, ys, as, bs, rfl, hi, hj, by simp; lia, fun _ hx => hx, c1, c2, Nat.le_refl _, hk⟩
theorem tuple_le_data (l b : Addr) (items items2 : Array Value) (n n2 : Nat) (dd dd2 : Option Addr) (sl sl2 : Array (Option Value)) (xs ys : List PyData) (k : Bool) (hk : cL false xs ys = some k)
    (ih : ∀ (A : Around) (s : Shared) (x y : PyData) (a c : Value) (as bs : List Addr) (j : Bool), x ∈ xs → Reads s.heap a x as → Reads s.heap c y bs → x.canLay0 = true → y.canLay0 = true → A.units + x.depth < cLine → cD false x y = some j → RcL A s false a c j) :
    Meets (Builtin.«tuple.__le__» ⟨[.ref l, .ref b], []⟩)
      (fun A R s => s.heap.get? l = some { cls := .type "tuple", dict := dd, data := .seq items n, slots := sl } ∧ s.heap.get? b = some { cls := .type "tuple", dict := dd2, data := .seq items2 n2, slots := sl2 } ∧
        (∃ as, ReadsAll s.heap items.toList xs as) ∧ (∃ as, ReadsAll s.heap items2.toList ys as) ∧ PyData.canLayAll0 xs = true ∧ PyData.canLayAll0 ys = true ∧ A.units + 1 + PyData.depthAll xs < cLine ∧ R (.ok (.ret (.bool k))) s) :=
  .of_wp fun prog w A R s h => by
    obtain ⟨hp, g, d, tk, os⟩ := s; obtain ⟨hl, hb, ⟨as, hi⟩, ⟨bs, hj⟩, c1, c2, hu, h⟩ := h
    have f2 := AutoSeq1.sub_tuple_tuple
    wp_walk using wpAny_loadPart' hl, wpAny_loadPart' hb, wpAny_forIn_list _ (fun rest b s' => b.1 = none ∧ s' = ⟨hp, g, d, tk, os⟩ ∧ ∃ (vs ws : List Value) (xs' ys' : List PyData) (as' bs' : List Addr), rest = vs.zip ws ∧
      ReadsAll hp vs xs' as' ∧ ReadsAll hp ws ys' bs' ∧ vs.length + items2.size = ws.length + items.size ∧ (∀ x ∈ xs', x ∈ xs) ∧ PyData.canLayAll0 xs' = true ∧ PyData.canLayAll0 ys' = true ∧ PyData.depthAll xs' ≤ PyData.depthAll xs ∧ cL false xs' ys' = some k) _
    case turn =>
      rintro ⟨y, x⟩ rest b s' ⟨hb', rfl, vs, ws, xs', ys', as', bs', hz, hvi, hwi, hlen, hsub, l1, l2, hdp, hc⟩
      cases hvi with
      | nil => rw [List.zip_nil_left] at hz; cases hz
      | @cons v1 vs1 x1 xs1 a1 as1 rv hvi' =>
        cases hwi with
        | nil => rw [List.zip_nil_right] at hz; cases hz
        | @cons w1 ws1 y1 ys1 b1 bs1 rw1 hwi' =>
          rw [List.zip_cons_cons] at hz
          injection hz with hyx hrest
          injection hyx with hy hx
          subst hy hx
          unfold PyData.canLayAll0 at l1 l2
          rw [Bool.and_eq_true] at l1 l2
          unfold cL at hc
          have hdc : PyData.depthAll (x1 :: xs1) = max x1.depth (PyData.depthAll xs1) := by rw [PyData.depthAll]
          rw [hdc] at hdp
          simp only [List.length_cons] at hlen
          have he := eqAt_reads x1 y1 A.in1 ⟨hp, g, d, tk, os⟩ _ _ _ _ rv rw1 l1.1 l2.1 (by show A.units + 1 + _ < cLine; lia)
          refine wpAny_bind (he prog w _ _ ?_)
          cases e : PyData.eqv x1 y1 with
          | true =>
            rw [e, if_pos rfl] at hc
            wp_walk
            exact ⟨rfl, rfl, _, _, _, _, _, _, hrest, hvi', hwi', by lia, fun z hz => hsub z (List.mem_cons_of_mem _ hz), l1.2, l2.2, by lia, hc⟩
          | false =>
            rw [e, if_neg Bool.false_ne_true] at hc
            have hri : ∀ (E : Value → Shared → Prop) (Q : Value → Shared → Prop), Q (.bool k) ⟨hp, g, d, tk, os⟩ → wpAny (model prog w) A.in1 (richCompare .LtE _ _) Q E ⟨hp, g, d, tk, os⟩ := ih A.in1 ⟨hp, g, d, tk, os⟩ x1 y1 _ _ _ _ k (hsub x1 List.mem_cons_self) rv rw1 l1.1 l2.1 (by show A.units + 1 + _ < cLine; lia) hc prog w
            wp_walk using hri
            exact ⟨_, rfl, by simpa using h⟩
    case fin =>
      rintro ⟨b1, b2⟩ s' ⟨hb', rfl, vs, ws, xs', ys', as', bs', hz, hvi, hwi, hlen, hsub, l1, l2, hdp, hc⟩
      simp only at hb'
      subst hb'
      have hv := cL_sizes hvi hwi hz.symm hc
      simp only [Bool.false_eq_true, if_false] at hv
      have hv2 : decide (vs.length ≤ ws.length) = decide (items.size ≤ items2.size) := by
        by_cases q : vs.length ≤ ws.length
        · rw [decide_eq_true q, decide_eq_true (by lia)]
        · rw [decide_eq_false q, decide_eq_false (by lia)]
      rw [hv2] at hv
      rw [hv] at h
      wp_walk
      exact ⟨_, rfl, by simpa [Builtin.Tuple.tupleCompareSizes] using h⟩
    case h =>
      exact ⟨rfl, rfl, items.toList, items2.toList, xs, ys, as, bs, rfl, hi, hj, by simp; lia, fun _ hx => hx, c1, c2, Nat.le_refl _, hk⟩
end
theorem rcL_reads : ∀ (n : Nat) (st : Bool) (da db : PyData) (A : Around) (s : Shared) (a b : Value) (as bs : List Addr) (k : Bool), sizeOf da < n → Reads s.heap a da as → Reads s.heap b db bs → da.canLay0 = true → db.canLay0 = true →
    A.units + da.depth < cLine → cD st da db = some k → RcL A s st a b k
  | 0, _, _, _, _, _, _, _, _, _, _, h, _, _, _, _, _, _ => absurd h (Nat.not_lt_zero _)
  | n + 1, st, da, db, A, s, a, b, as, bs, k, hn, ra, rb, ha, hb, hu, hk => by
    intro prog w E Q hQ
    cases ra with
    | none => cases db <;> simp [cD] at hk
    | bool x => cases db <;> simp [cD] at hk
    | list _ _ _ _ => cases db <;> simp [cD] at hk
    | dict _ _ _ _ _ => cases db <;> simp [cD] at hk
    | int i t =>
      cases rb with
      | int j u =>
        simp only [cD] at hk
        cases hk
        cases st with
        | true => exact (PyProof.Rows.lt_int hQ : wpAny (model prog w) A (compareOp .Lt (.int i t) (.int j u)) Q E s)
        | false => exact (PyProof.Rows.le_int hQ : wpAny (model prog w) A (compareOp .LtE (.int i t) (.int j u)) Q E s)
      | _ => simp [cD] at hk
    | str x t =>
      cases rb with
      | str y u =>
        simp only [cD] at hk
        cases hk
        cases st with
        | true => exact (PySem.P.lt_str hQ : wpAny (model prog w) A (compareOp .Lt (.str x t) (.str y u)) Q E s)
        | false => exact (PySem.P.le_str (by simpa [cS] using hQ) : wpAny (model prog w) A (compareOp .LtE (.str x t) (.str y u)) Q E s)
      | _ => simp [cD] at hk
    | @tuple a o vs n1 xs as e1 c1 d1 l1 =>
      cases rb with
      | @tuple b o2 ws n2 ys bs e2 c2 d2 l2 =>
        simp only [cD] at hk
        unfold PyData.canLay0 at ha hb
        unfold PyData.depth at hu
        obtain ⟨cls, dd, data, sl⟩ := o
        obtain ⟨cls2, dd2, data2, sl2⟩ := o2
        simp only at c1 d1 c2 d2
        subst c1 d1 c2 d2
        have ih : ∀ (A : Around) (s : Shared) (x y : PyData) (a c : Value) (as bs : List Addr) (j : Bool), x ∈ xs → Reads s.heap a x as → Reads s.heap c y bs → x.canLay0 = true → y.canLay0 = true → A.units + x.depth < cLine → cD st x y = some j → RcL A s st a c j :=
          fun A s x y a c as bs j hx r1 r2 k1 k2 hu' hj => rcL_reads n st x y A s a c as bs j (by
            have := List.sizeOf_lt_of_mem hx
            simp only [PyData.tuple.sizeOf_spec] at hn
            lia) r1 r2 k1 k2 hu' hj
        cases st with
        | true =>
          exact richCompare_meets_room (op := .Lt) ⟨_, e1, rfl⟩ ⟨_, e2, rfl⟩ PySem.F.slot_tuple_lt PySem.F.entry_tuple_lt (PySem.F.args_tuple_lt_2 _ _) (tuple_lt_data a b vs ws n1 n2 dd dd2 sl sl2 xs ys k hk ih)
            ⟨e1, e2, ⟨_, l1⟩, ⟨_, l2⟩, ha, hb, by lia, show Value.bool k ≠ Value.notImplemented ∧ Q (.bool k) s from ⟨(fun x => nomatch x), hQ⟩⟩ (by lia)
        | false =>
          exact richCompare_meets_room (op := .LtE) ⟨_, e1, rfl⟩ ⟨_, e2, rfl⟩ PySem.F.slot_tuple_le PySem.F.entry_tuple_le (PySem.F.args_tuple_le_2 _ _) (tuple_le_data a b vs ws n1 n2 dd dd2 sl sl2 xs ys k hk ih)
            ⟨e1, e2, ⟨_, l1⟩, ⟨_, l2⟩, ha, hb, by lia, show Value.bool k ≠ Value.notImplemented ∧ Q (.bool k) s from ⟨(fun x => nomatch x), hQ⟩⟩ (by lia)
      | _ => simp [cD] at hk
end L3
set_option Elab.async false
set_option linter.all false
set_option maxRecDepth 100000
set_option maxHeartbeats 4000000
set_option autoImplicit false
namespace L3
open PySem PySem.Spec L2
open PyProof.Rows hiding St
noncomputable abbrev D := PyData
mutual
inductive Rp (Z : List Addr) (H : Hp) : D → V → Prop
  | none : Rp Z H .none .non
  | bool (b : Bool) : Rp Z H (.bool b) (.bl b)
  | int (i : Int) : Rp Z H (.int i) (.int i)
  | str (x : Str) : PyData.strOk x = true → Rp Z H (.str x) (.str x)
  | tup {a : Addr} {xs : List D} {vs : List V} : a ∉ Z → H a = some (.tup vs) → RpL Z H xs vs → Rp Z H (.tuple xs) (.ref a)
  | lst {a : Addr} {xs : List D} {vs : List V} : a ∉ Z → H a = some (.lst vs) → RpL Z H xs vs → Rp Z H (.list xs) (.ref a)
inductive RpL (Z : List Addr) (H : Hp) : List D → List V → Prop
  | nil : RpL Z H [] []
  | cons {d : D} {v : V} {ds : List D} {vs : List V} : Rp Z H d v → RpL Z H ds vs → RpL Z H (d :: ds) (v :: vs)
end
structure Kp (Z : List Addr) (H : Hp) (Z' : List Addr) (H' : Hp) : Prop where
  keep : ∀ a o, a ∉ Z → H a = some o → H' a = some o
  new : ∀ a, a ∈ Z' → a ∈ Z ∨ H a = none
theorem Kp.same {Z : List Addr} {H H' : Hp} (h : Same H H') : Kp Z H Z H' := ⟨fun a o _ e => h a o e, fun _ h => .inl h⟩
theorem Kp.refl {Z : List Addr} {H : Hp} : Kp Z H Z H := .same (Same.refl H)
theorem Kp.at {Z Z' : List Addr} {H H' : Hp} {a : Addr} {u : HO} (k : Kp Z H Z' H') (hz : a ∉ Z) (e : H a = some u) : a ∉ Z' ∧ H' a = some u :=
  ⟨fun h => (k.new a h).elim hz fun z => (by rw [e] at z; cases z), k.keep a u hz e⟩
theorem Same.rd {H H' : Hp} {a : Addr} {u : HO} (h : Same H H') (r : Rd H a u) : Rd H' a u := by
  rcases r with e | ⟨o, e⟩
  · exact .inl (h _ _ e)
  · exact .inr ⟨o, h _ _ e⟩
mutual
theorem Rp.kp {Z Z' : List Addr} {H H' : Hp} (k : Kp Z H Z' H') : ∀ {d : D} {v : V}, Rp Z H d v → Rp Z' H' d v
  | _, _, .none => .none
  | _, _, .bool b => .bool b
  | _, _, .int i => .int i
  | _, _, .str x h => .str x h
  | _, _, .tup hz r l => .tup (k.at hz r).1 (k.at hz r).2 (RpL.kp k l)
  | _, _, .lst hz r l => .lst (k.at hz r).1 (k.at hz r).2 (RpL.kp k l)
theorem RpL.kp {Z Z' : List Addr} {H H' : Hp} (k : Kp Z H Z' H') : ∀ {ds : List D} {vs : List V}, RpL Z H ds vs → RpL Z' H' ds vs
  | _, _, .nil => .nil
  | _, _, .cons r l => .cons (Rp.kp k r) (RpL.kp k l)
end
theorem Kp.trans {Z Z1 Z2 : List Addr} {H H1 H2 : Hp} (a : Kp Z H Z1 H1) (b : Kp Z1 H1 Z2 H2) : Kp Z H Z2 H2 := by
  refine ⟨fun c o hc e => ?_, fun c hc => ?_⟩
  · exact b.keep c o (fun h => (a.new c h).elim hc fun z => by rw [e] at z; cases z) (a.keep c o hc e)
  · rcases b.new c hc with z | z
    · exact a.new c z
    · by_cases hz : c ∈ Z
      · exact .inl hz
      · refine .inr ?_
        cases q : H c with
        | none => rfl
        | some o => rw [a.keep c o hz q] at z; cases z
theorem Kp.sub {Z Z' : List Addr} {H : Hp} (h : ∀ a, a ∈ Z' → a ∈ Z) : Kp Z H Z' H := ⟨fun _ _ _ e => e, fun a ha => .inl (h a ha)⟩
theorem RpL.length {Z : List Addr} {H : Hp} : ∀ {ds : List D} {vs : List V}, RpL Z H ds vs → ds.length = vs.length
  | _, _, .nil => rfl
  | _, _, .cons _ l => by simp [RpL.length l]
theorem RpL.get {Z : List Addr} {H : Hp} : ∀ {ds : List D} {vs : List V} {i : Nat} {d : D}, RpL Z H ds vs → ds[i]? = some d → ∃ v, vs[i]? = some v ∧ Rp Z H d v
  | _, _, _, _, .nil, h => by simp at h
  | _, _, 0, _, .cons r _, h => by simp at h; subst h; exact ⟨_, rfl, r⟩
  | _, _, i + 1, d, .cons _ l, h => by
    obtain ⟨v, e, r⟩ := RpL.get (i := i) (d := d) l (by simpa using h)
    exact ⟨v, by simpa using e, r⟩
theorem RpL.append {Z : List Addr} {H : Hp} : ∀ {ds es : List D} {vs us : List V}, RpL Z H ds vs → RpL Z H es us → RpL Z H (ds ++ es) (vs ++ us)
  | _, _, _, _, .nil, s => s
  | _, _, _, _, .cons r l, s => .cons r (RpL.append l s)
theorem RpL.take {Z : List Addr} {H : Hp} : ∀ {ds : List D} {vs : List V} (n : Nat), RpL Z H ds vs → RpL Z H (ds.take n) (vs.take n)
  | _, _, 0, _ => .nil
  | _, _, _ + 1, .nil => .nil
  | _, _, n + 1, .cons r l => .cons r (RpL.take n l)
theorem RpL.drop {Z : List Addr} {H : Hp} : ∀ {ds : List D} {vs : List V} (n : Nat), RpL Z H ds vs → RpL Z H (ds.drop n) (vs.drop n)
  | _, _, 0, l => l
  | _, _, _ + 1, .nil => .nil
  | _, _, n + 1, .cons _ l => RpL.drop n l
theorem RpL.rep {Z : List Addr} {H : Hp} {ds : List D} {vs : List V} (h : RpL Z H ds vs) : ∀ k : Nat, RpL Z H (List.replicate k ds).flatten (List.replicate k vs).flatten
  | 0 => .nil
  | k + 1 => by
    rw [List.replicate_succ, List.replicate_succ, List.flatten_cons, List.flatten_cons]
    exact h.append (RpL.rep h k)
mutual
theorem Rp.reads {X : Cx} {pins : List (Addr × Obj)} {σ : St} {H : Hp} {s : Shared} (I : Inv X pins σ H s) {Z : List Addr} : ∀ {d : D} {v : V} {u : Value}, Rp Z H d v → RelV v u → ∃ as, Reads s.heap u d as
  | _, _, _, .none, r => by cases r; exact ⟨_, .none⟩
  | _, _, _, .bool b, r => by cases r; exact ⟨_, .bool b⟩
  | _, _, _, .int i, r => by obtain ⟨t, rfl⟩ := r; exact ⟨_, .int i t⟩
  | _, _, _, .str x _, r => by obtain ⟨t, rfl⟩ := r; exact ⟨_, .str x t⟩
  | _, _, _, .tup hz q l, r => by
    cases r
    obtain ⟨its, rv, ⟨o, e, c, n, dd⟩, _⟩ := I.tuple (SqT.of q)
    obtain ⟨as, ra⟩ := RpL.reads I l rv
    exact ⟨_, .tuple e c dd (by simpa using ra)⟩
  | _, _, _, .lst hz q l, r => by
    cases r
    obtain ⟨its, rv, ⟨o, n, e, c, _, dd⟩, _⟩ := I.list (SqL.of q)
    obtain ⟨as, ra⟩ := RpL.reads I l rv
    exact ⟨_, .list e c dd (by simpa using ra)⟩
theorem RpL.reads {X : Cx} {pins : List (Addr × Obj)} {σ : St} {H : Hp} {s : Shared} (I : Inv X pins σ H s) {Z : List Addr} : ∀ {ds : List D} {vs : List V} {us : List Value}, RpL Z H ds vs → Vals vs us → ∃ as, ReadsAll s.heap us ds as
  | _, _, _, .nil, r => by cases r; exact ⟨_, .nil⟩
  | _, _, _, .cons p l, r => by
    cases r with
    | cons r rr =>
      obtain ⟨as, h1⟩ := Rp.reads I p r
      obtain ⟨bs, h2⟩ := RpL.reads I l rr
      exact ⟨_, .cons h1 h2⟩
end
mutual
theorem Rp.lay {Z : List Addr} {H : Hp} : ∀ {d : D} {v : V}, Rp Z H d v → d.canLay0 = true
  | _, _, .none => rfl
  | _, _, .bool _ => rfl
  | _, _, .int _ => rfl
  | _, _, .str x h => by unfold PyData.canLay0; exact h
  | _, _, .tup _ _ l => by unfold PyData.canLay0; exact RpL.lay l
  | _, _, .lst _ _ l => by unfold PyData.canLay0; exact RpL.lay l
theorem RpL.lay {Z : List Addr} {H : Hp} : ∀ {ds : List D} {vs : List V}, RpL Z H ds vs → PyData.canLayAll0 ds = true
  | _, _, .nil => rfl
  | _, _, .cons r l => by unfold PyData.canLayAll0; rw [Rp.lay r, RpL.lay l]; rfl
end
noncomputable def KL (K : PySem.W.Frag) (a : Addr) (xs : List V) : Prop := ∃ (o : Obj) (its : Array Value) (n : Nat), K.lookup a = some o ∧ o.cls = .type "list" ∧ o.dict = none ∧ o.data = .seq its n ∧ its.size ≤ sizeLine ∧ Vals xs its.toList
inductive DV where
  | d (x : D)
  | ob (C : Addr) (fs : List (Str × D))
  | tbl (kvs : List (Str × D))
  | ex (q : Addr)
  | own (xs : List D)
  | new (xs : List D)
  | scr (K : PySem.W.Frag) (ns : List Int)
noncomputable abbrev DS := List (Option DV)
noncomputable def FsR (Z : List Addr) (H : Hp) : List (Str × D) → List (Str × V) → Prop := Paired fun (p : Str × D) (q : Str × V) => p.1 = q.1 ∧ Rp Z H p.2 q.2
noncomputable def ObR (Z : List Addr) (H : Hp) (C : Addr) (fs : List (Str × D)) (v : V) : Prop := ∃ a dx gs, v = .ref a ∧ a ∉ Z ∧ H a = some (.ins C dx gs) ∧ FsR Z H fs gs
noncomputable def KvR (Z : List Addr) (H : Hp) : List (Str × D) → List (Key × V) → Prop := Paired fun (p : Str × D) (q : Key × V) => q.1 = Sum.inr p.1 ∧ Rp Z H p.2 q.2
noncomputable def TbR (Z : List Addr) (H : Hp) (kvs : List (Str × D)) (v : V) : Prop := ∃ a kv, v = .ref a ∧ a ∉ Z ∧ H a = some (.dK kv) ∧ KvR Z H kvs kv
noncomputable def OwR (P Z : List Addr) (H : Hp) (xs : List D) (v : V) : Prop := ∃ a vs, v = .ref a ∧ a ∈ P ∧ H a = some (.lst vs) ∧ RpL Z H xs vs
noncomputable def RE (O P : List Addr) (H H' : Hp) : DV → V → Prop
  | .d x, v => Rp (P ++ O) H' x v
  | .ob C fs, v => ObR (P ++ O) H' C fs v
  | .tbl kvs, v => TbR (P ++ O) H' kvs v
  | .ex q, v => v = .ref q
  | .own xs, v => OwR P (P ++ O) H' xs v
  | .new xs, v => ∃ a vs, v = .ref a ∧ H a = none ∧ H' a = some (.lst vs) ∧ RpL (a :: (P ++ O)) H' xs vs
  | .scr K ns, v => ∃ a, v = .ref a ∧ ((a ∉ P ++ O ∧ Rd H' a (.lst (ns.map V.int))) ∨ KL K a (ns.map V.int))
structure RS (O P : List Addr) (H : Hp) (σ : St) (δ : DS) : Prop where
  len : σ.length = δ.length
  dom : ∀ a, a ∈ P ++ O → ∃ o, H a = some o
  apart : ∀ a, a ∈ P → a ∉ O
  at' : ∀ (i : Nat) (x : DV), δ[i]? = some (some x) → ∃ v, σ[i]? = some (some v) ∧ (∀ xs, x ≠ .new xs) ∧ RE O P H H x v
  one : ∀ (i j : Nat) (xs ys : List D) (v : V), δ[i]? = some (some (.own xs)) → δ[j]? = some (some (.own ys)) → σ[i]? = some (some v) → σ[j]? = some (some v) → i = j
theorem FsR.kp {Z Z' : List Addr} {H H' : Hp} (k : Kp Z H Z' H') {fs : List (Str × D)} {gs : List (Str × V)} (h : FsR Z H fs gs) : FsR Z' H' fs gs := Paired.mapP h fun _ _ r => ⟨r.1, r.2.kp k⟩
theorem ObR.kp {Z Z' : List Addr} {H H' : Hp} (k : Kp Z H Z' H') {C : Addr} {fs : List (Str × D)} {v : V} (h : ObR Z H C fs v) : ObR Z' H' C fs v := by
  obtain ⟨a, dx, gs, e, hz, ha, hf⟩ := h
  refine ⟨a, dx, gs, e, fun hz' => ?_, k.keep _ _ hz ha, hf.kp k⟩
  rcases k.new a hz' with z | z
  · exact hz z
  · rw [ha] at z; cases z
theorem TbR.kp {Z Z' : List Addr} {H H' : Hp} (k : Kp Z H Z' H') {kvs : List (Str × D)} {v : V} (h : TbR Z H kvs v) : TbR Z' H' kvs v := by
  obtain ⟨a, kv, e, hz, ha, hf⟩ := h
  refine ⟨a, kv, e, fun hz' => ?_, k.keep _ _ hz ha, Paired.mapP hf fun _ _ r => ⟨r.1, r.2.kp k⟩⟩
  rcases k.new a hz' with z | z
  · exact hz z
  · rw [ha] at z; cases z
theorem RS.same {O P : List Addr} {H H' : Hp} {σ : St} {δ : DS} (r : RS O P H σ δ) (h : Same H H') : RS O P H' σ δ := by
  refine ⟨r.len, fun a ha => ?_, r.apart, fun i x e => ?_, r.one⟩
  · obtain ⟨o, e⟩ := r.dom a ha
    exact ⟨o, h a o e⟩
  · obtain ⟨v, e1, e2, e3⟩ := r.at' i x e
    refine ⟨v, e1, e2, ?_⟩
    cases x with
    | d x => exact Rp.kp (.same h) e3
    | ob C fs => exact ObR.kp (.same h) e3
    | tbl kvs => exact TbR.kp (.same h) e3
    | ex q => exact e3
    | own xs =>
      obtain ⟨a, vs, ev, hP, ha, hl⟩ := e3
      exact ⟨a, vs, ev, hP, h a _ ha, hl.kp (.same h)⟩
    | new xs => exact absurd rfl (e2 xs)
    | scr K ns =>
      obtain ⟨a, ev, hz⟩ := e3
      exact ⟨a, ev, hz.imp (fun z => ⟨z.1, Same.rd h z.2⟩) fun z => z⟩
theorem RE.on {O P : List Addr} {H H1 H2 : Hp} {x : DV} {v : V} (r : RE O P H H1 x v) (h : Same H1 H2) : RE O P H H2 x v := by
  cases x with
  | d x => exact Rp.kp (.same h) r
  | ob C fs => exact ObR.kp (.same h) r
  | tbl kvs => exact TbR.kp (.same h) r
  | ex q => exact r
  | own xs =>
    obtain ⟨a, vs, ev, hP, ha, hl⟩ := r
    exact ⟨a, vs, ev, hP, h a _ ha, hl.kp (.same h)⟩
  | new xs =>
    obtain ⟨a, vs, ev, hn, ha, hl⟩ := r
    exact ⟨a, vs, ev, hn, h a _ ha, hl.kp (.same h)⟩
  | scr K ns =>
    obtain ⟨a, ev, hz⟩ := r
    exact ⟨a, ev, hz.imp (fun z => ⟨z.1, Same.rd h z.2⟩) fun z => z⟩
theorem RE.from {O P : List Addr} {H H1 H2 : Hp} {x : DV} {v : V} (r : RE O P H1 H2 x v) (h : Same H H1) : RE O P H H2 x v := by
  cases x with
  | d x => exact r
  | ob C fs => exact r
  | tbl kvs => exact r
  | ex q => exact r
  | own xs => exact r
  | new xs =>
    obtain ⟨a, vs, ev, hn, ha, hl⟩ := r
    exact ⟨a, vs, ev, h.free hn, ha, hl⟩
  | scr K ns => exact r
noncomputable abbrev M (α : Type) := Option (Except Value α)
noncomputable def bd {α β : Type} (m : M α) (f : α → M β) : M β := match m with
  | none => none
  | some (.error c) => some (.error c)
  | some (.ok a) => f a
noncomputable def rt {α : Type} (a : α) : M α := some (.ok a)
@[simp] theorem bd_rt {α β : Type} (a : α) (f : α → M β) : bd (rt a) f = f a := rfl
@[simp] theorem bd_ok {α β : Type} (a : α) (f : α → M β) : bd (some (.ok a)) f = f a := rfl
@[simp] theorem bd_none {α β : Type} (f : α → M β) : bd (none : M α) f = none := rfl
@[simp] theorem bd_err {α β : Type} (c : Value) (f : α → M β) : bd (some (.error c) : M α) f = some (.error c) := rfl
noncomputable def op {α : Type} (o : Option α) : M α := match o with
  | none => none
  | some a => some (.ok a)
@[simp] theorem op_some {α : Type} (a : α) : op (some a) = rt a := rfl
@[simp] theorem op_none {α : Type} : op (none : Option α) = none := rfl
theorem bd_cases {α β : Type} {m : M α} {f : α → M β} {r : Except Value β} (h : bd m f = some r) : (∃ a, m = some (.ok a) ∧ f a = some r) ∨ (∃ c, m = some (.error c) ∧ r = .error c) := by
  cases m with
  | none => cases h
  | some e =>
    cases e with
    | ok a => exact .inl ⟨a, rfl, h⟩
    | error c => exact .inr ⟨c, rfl, by cases h; rfl⟩
noncomputable def asD : DV → Option D
  | .d x => some x
  | .new xs => some (.list xs)
  | _ => none
noncomputable def asL : DV → Option (List D)
  | .d (.list xs) => some xs
  | .own xs => some xs
  | .new xs => some xs
  | _ => none
noncomputable def asA : DV → Option DV
  | .d x => some (.d x)
  | .ob C fs => some (.ob C fs)
  | .tbl kvs => some (.tbl kvs)
  | .ex q => some (.ex q)
  | .new xs => some (.d (.list xs))
  | .scr K ns => some (.scr K ns)
  | _ => none
@[simp] theorem asA_scr (K : PySem.W.Frag) (ns : List Int) : asA (.scr K ns) = some (.scr K ns) := rfl
@[simp] theorem asD_d (x : D) : asD (.d x) = some x := rfl
@[simp] theorem asD_new (xs : List D) : asD (.new xs) = some (.list xs) := rfl
@[simp] theorem asL_d (xs : List D) : asL (.d (.list xs)) = some xs := rfl
@[simp] theorem asL_own (xs : List D) : asL (.own xs) = some xs := rfl
@[simp] theorem asL_new (xs : List D) : asL (.new xs) = some xs := rfl
@[simp] theorem asA_d (x : D) : asA (.d x) = some (.d x) := rfl
@[simp] theorem asA_ob (C : Addr) (fs : List (Str × D)) : asA (.ob C fs) = some (.ob C fs) := rfl
@[simp] theorem asA_new (xs : List D) : asA (.new xs) = some (.d (.list xs)) := rfl
section
variable {O P : List Addr} {H H' : Hp} {x : DV} {v : V}
theorem new_data {xs : List D} (dom : ∀ a, a ∈ P ++ O → ∃ o, H a = some o) (r : RE O P H H' (.new xs) v) : Rp (P ++ O) H' (.list xs) v := by
  obtain ⟨a, vs, rfl, hn, ha, hl⟩ := r
  refine .lst (fun h => ?_) ha (hl.kp (.sub fun b hb => List.mem_cons_of_mem _ hb))
  obtain ⟨o, e⟩ := dom a h
  rw [e] at hn; cases hn
theorem RE.data {d : D} (dom : ∀ a, a ∈ P ++ O → ∃ o, H a = some o) (r : RE O P H H' x v) (h : asD x = some d) : Rp (P ++ O) H' d v := by
  cases x with
  | d y => cases h; exact r
  | ob C fs => cases h
  | tbl kvs => cases h
  | ex q => cases h
  | own xs => cases h
  | new xs => cases h; exact new_data dom r
  | scr K ns => cases h
theorem RE.list {xs : List D} (r : RE O P H H' x v) (h : asL x = some xs) : ∃ a vs, v = .ref a ∧ H' a = some (.lst vs) ∧ RpL (P ++ O) H' xs vs := by
  cases x with
  | d y =>
    cases y <;> simp only [asL] at h <;> try cases h
    have r' : Rp (P ++ O) H' _ v := r
    cases r' with
    | lst hz q l => exact ⟨_, _, rfl, q, l⟩
  | ob C fs => cases h
  | tbl kvs => cases h
  | ex q => cases h
  | own ys =>
    cases h
    obtain ⟨a, vs, rfl, hP, ha, hl⟩ := r
    exact ⟨a, vs, rfl, ha, hl⟩
  | new ys =>
    cases h
    obtain ⟨a, vs, rfl, hn, ha, hl⟩ := r
    exact ⟨a, vs, rfl, ha, hl.kp (.sub fun b hb => List.mem_cons_of_mem _ hb)⟩
  | scr K ns => cases h
theorem RE.arg {y : DV} (dom : ∀ a, a ∈ P ++ O → ∃ o, H a = some o) (r : RE O P H H' x v) (h : asA x = some y) : RE O P H H' y v := by
  cases x with
  | d z => cases h; exact r
  | ob C fs => cases h; exact r
  | tbl kvs => cases h; exact r
  | ex q => cases h; exact r
  | own xs => cases h
  | new xs => cases h; exact new_data dom r
  | scr K ns => cases h; exact r
end
noncomputable def Fn (E : XK) (O P : List Addr) (H₀ H : Hp) (Q : VK) : Except Value DV → Prop
  | .ok x => ∀ v H', Same H H' → RE O P H₀ H' x v → Q v H'
  | .error c => ∀ dx H', Same H H' → E c dx H'
noncomputable def FnB (E : XK) (H : Hp) (Q : Bool → Hp → Prop) : Except Value Bool → Prop
  | .ok b => ∀ H', Same H H' → Q b H'
  | .error c => ∀ dx H', Same H H' → E c dx H'
noncomputable def REs (O P : List Addr) (H H' : Hp) : List DV → List V → Prop := Paired (RE O P H H')
noncomputable def FnA (E : XK) (O P : List Addr) (H₀ H : Hp) (Q : List V → Hp → Prop) : Except Value (List DV) → Prop
  | .ok xs => ∀ vs H', Same H H' → REs O P H₀ H' xs vs → Q vs H'
  | .error c => ∀ dx H', Same H H' → E c dx H'
theorem Fn.on {E : XK} {O P : List Addr} {H₀ H H1 : Hp} {Q : VK} {r : Except Value DV} (h : Fn E O P H₀ H Q r) (s : Same H H1) : Fn E O P H₀ H1 Q r := by
  cases r with
  | ok x => exact fun v H' s' q => h v H' (s.trans s') q
  | error c => exact fun dx H' s' => h dx H' (s.trans s')
theorem FnB.on {E : XK} {H H1 : Hp} {Q : Bool → Hp → Prop} {r : Except Value Bool} (h : FnB E H Q r) (s : Same H H1) : FnB E H1 Q r := by
  cases r with
  | ok x => exact fun H' s' => h H' (s.trans s')
  | error c => exact fun dx H' s' => h dx H' (s.trans s')
theorem FnA.on {E : XK} {O P : List Addr} {H₀ H H1 : Hp} {Q : List V → Hp → Prop} {r : Except Value (List DV)} (h : FnA E O P H₀ H Q r) (s : Same H H1) : FnA E O P H₀ H1 Q r := by
  cases r with
  | ok x => exact fun v H' s' q => h v H' (s.trans s') q
  | error c => exact fun dx H' s' => h dx H' (s.trans s')
noncomputable def tE (E : XK) (f : DS → M DV) : TE := fun σ H Q => ∃ O P δ r, RS O P H σ δ ∧ f δ = some r ∧ Fn E O P H H Q r
noncomputable def tBo (E : XK) (f : DS → M Bool) : TT := fun σ H Q => ∃ O P δ r, RS O P H σ δ ∧ f δ = some r ∧ FnB E H Q r
noncomputable def tAr (E : XK) (f : DS → M (List DV)) : TA := fun σ H Q => ∃ O P δ r, RS O P H σ δ ∧ f δ = some r ∧ FnA E O P H H Q r
noncomputable def PX (X : Cx) (E : XK) (e : Expr) (f : DS → M DV) : Prop := PE X e (tE E f)
noncomputable def PB (X : Cx) (E : XK) (e : Expr) (f : DS → M Bool) : Prop := PT X e (tBo E f)
noncomputable def PAs (X : Cx) (E : XK) (es : List Expr) (f : DS → M (List DV)) : Prop := PA X es (tAr E f)
section
variable {X : Cx} {E : XK}
theorem PE.mono {e : Expr} {t t' : TE} (h : PE X e t) (m : ∀ σ H Q, t' σ H Q → t σ H Q) : PE X e t' := fun pins s σ H Q I q => h pins s σ H Q I (m σ H Q q)
theorem PT.mono {e : Expr} {t t' : TT} (h : PT X e t) (m : ∀ σ H Q, t' σ H Q → t σ H Q) : PT X e t' := fun pins s σ H Q I q => h pins s σ H Q I (m σ H Q q)
theorem PA.mono {es : List Expr} {t t' : TA} (h : PA X es t) (m : ∀ σ H Q, t' σ H Q → t σ H Q) : PA X es t' := fun pos pins s σ H Q I q => h pos pins s σ H Q I (m σ H Q q)
theorem tE_bd {f : DS → M DV} {g : DS → DV → M DV} {σ : St} {H : Hp} {Q t : VK} (h : tE E (fun δ => bd (f δ) (g δ)) σ H Q)
    (k : ∀ O P δ x r v H1, RS O P H σ δ → RS O P H1 σ δ → Same H H1 → RE O P H H1 x v → g δ x = some r → Fn E O P H H1 Q r → t v H1) : tE E f σ H t := by
  obtain ⟨O, P, δ, r, rs, e, q⟩ := h
  rcases bd_cases e with ⟨x, e1, e2⟩ | ⟨c, e1, e2⟩
  · exact ⟨O, P, δ, .ok x, rs, e1, fun v H1 s1 re => k O P δ x r v H1 rs (rs.same s1) s1 re e2 (q.on s1)⟩
  · subst e2
    exact ⟨O, P, δ, .error c, rs, e1, q⟩
theorem tE_bdB {f : DS → M DV} {g : DS → DV → M Bool} {σ : St} {H : Hp} {Q : Bool → Hp → Prop} {t : VK} (h : tBo E (fun δ => bd (f δ) (g δ)) σ H Q)
    (k : ∀ O P δ x r v H1, RS O P H σ δ → RS O P H1 σ δ → Same H H1 → RE O P H H1 x v → g δ x = some r → FnB E H1 Q r → t v H1) : tE E f σ H t := by
  obtain ⟨O, P, δ, r, rs, e, q⟩ := h
  rcases bd_cases e with ⟨x, e1, e2⟩ | ⟨c, e1, e2⟩
  · exact ⟨O, P, δ, .ok x, rs, e1, fun v H1 s1 re => k O P δ x r v H1 rs (rs.same s1) s1 re e2 (q.on s1)⟩
  · subst e2
    exact ⟨O, P, δ, .error c, rs, e1, q⟩
theorem tB_bd {f : DS → M Bool} {g : DS → Bool → M DV} {σ : St} {H : Hp} {Q : VK} {t : Bool → Hp → Prop} (h : tE E (fun δ => bd (f δ) (g δ)) σ H Q)
    (k : ∀ O P δ x r H1, RS O P H σ δ → RS O P H1 σ δ → Same H H1 → g δ x = some r → Fn E O P H H1 Q r → t x H1) : tBo E f σ H t := by
  obtain ⟨O, P, δ, r, rs, e, q⟩ := h
  rcases bd_cases e with ⟨x, e1, e2⟩ | ⟨c, e1, e2⟩
  · exact ⟨O, P, δ, .ok x, rs, e1, fun H1 s1 => k O P δ x r H1 rs (rs.same s1) s1 e2 (q.on s1)⟩
  · subst e2
    exact ⟨O, P, δ, .error c, rs, e1, q⟩
theorem tB_bdB {f : DS → M Bool} {g : DS → Bool → M Bool} {σ : St} {H : Hp} {Q : Bool → Hp → Prop} {t : Bool → Hp → Prop} (h : tBo E (fun δ => bd (f δ) (g δ)) σ H Q)
    (k : ∀ O P δ x r H1, RS O P H σ δ → RS O P H1 σ δ → Same H H1 → g δ x = some r → FnB E H1 Q r → t x H1) : tBo E f σ H t := by
  obtain ⟨O, P, δ, r, rs, e, q⟩ := h
  rcases bd_cases e with ⟨x, e1, e2⟩ | ⟨c, e1, e2⟩
  · exact ⟨O, P, δ, .ok x, rs, e1, fun H1 s1 => k O P δ x r H1 rs (rs.same s1) s1 e2 (q.on s1)⟩
  · subst e2
    exact ⟨O, P, δ, .error c, rs, e1, q⟩
noncomputable def eVar (i : Nat) (δ : DS) : M DV := op ((δ[i]?).join)
theorem px_var (i : Nat) {x : Str} {pos : Pos} (h : PE X (.Name x pos) (tVar i)) : PX X E (.Name x pos) (eVar i) := PE.mono h fun σ H Q q => by
  obtain ⟨O, P, δ, r, rs, e, q⟩ := q
  unfold eVar at e
  cases ed : δ[i]? with
  | none => rw [ed] at e; cases e
  | some o =>
    cases o with
    | none => rw [ed] at e; cases e
    | some y =>
      rw [ed] at e
      cases e
      obtain ⟨v, e1, e2, e3⟩ := rs.at' i y ed
      exact ⟨v, e1, q v H (Same.refl H) e3⟩
noncomputable def eC (x : D) (_ : DS) : M DV := rt (.d x)
theorem px_con {e : Expr} {x : D} {v : V} (h : PE X e (tC v)) (hr : ∀ Z H, Rp Z H x v) : PX X E e (eC x) := PE.mono h fun σ H Q q => by
  obtain ⟨O, P, δ, r, rs, e, q⟩ := q
  cases e
  exact q v H (Same.refl H) (hr _ _)
theorem px_int {i : Int} {j pos} : PX X E (.Constant (.int i) j pos) (eC (.int i)) := px_con pe_int fun _ _ => .int i
theorem px_bl {b : Bool} {j pos} : PX X E (.Constant (.bool b) j pos) (eC (.bool b)) := px_con pe_bl fun _ _ => .bool b
theorem px_str {x : Str} {j pos} (hx : PyData.strOk x = true) : PX X E (.Constant (.str x) j pos) (eC (.str x)) := px_con pe_str fun _ _ => .str x hx
theorem px_gint {x : Str} {i : Int} {t : Tok} {pos : Pos} (hg : Gl X x) (hm : X.mg x = some (.int i t)) (hd : (x == ("__debug__" : Str)) = false := by decide) : PX X E (.Name x pos) (eC (.int i)) := px_con (v := .int i) (pe_glob hg hm ⟨t, rfl⟩ hd) fun _ _ => .int i
noncomputable def OpV (X : Cx) (E : XK) (f : Value → Value → Sem Value) (g : DV → DV → M DV) : Prop :=
  ∀ (pins : List (Addr × Obj)) (s : Shared) (σ : St) (O P : List Addr) (H₀ H : Hp) (x y : DV) (v u : V) (vv uu : Value) (r : Except Value DV) (Q : VK), Inv X pins σ H s → (∀ a, a ∈ P ++ O → ∃ o, H₀ a = some o) → Same H₀ H →
    RE O P H₀ H x v → RE O P H₀ H y u → RelV v vv → RelV u uu → g x y = some r → Fn E O P H₀ H Q r → wpAny (model X.prog X.w) X.A (f vv uu) (EP X pins σ Q) X.xe s
noncomputable def e2 (g : DV → DV → M DV) (fa fb : DS → M DV) (δ : DS) : M DV := bd (fa δ) fun x => bd (fb δ) fun y => g x y
theorem OpV.rule {f : Value → Value → Sem Value} {g : DV → DV → M DV} {R : R2} (ho : OpR X f R)
    (h : ∀ (O P : List Addr) (H₀ H : Hp) (x y : DV) (v u : V) (r : Except Value DV) (Q : VK), (∀ a, a ∈ P ++ O → ∃ o, H₀ a = some o) → Same H₀ H → RE O P H₀ H x v → RE O P H₀ H y u → g x y = some r → Fn E O P H₀ H Q r → R v u H Q) : OpV X E f g :=
  fun pins s σ O P H₀ H x y v u vv uu r Q I hd hs rx ry ev eu e q => ho pins s σ H v u vv uu Q I ev eu (h O P H₀ H x y v u r Q hd hs rx ry e q)
theorem t2 {g : DV → DV → M DV} {fa fb : DS → M DV} {σ : St} {H : Hp} {Q : VK} (h : tE E (e2 g fa fb) σ H Q) {t : V → V → Hp → Prop}
    (k : ∀ O P x y r v u H1, (∀ a, a ∈ P ++ O → ∃ o, H a = some o) → Same H H1 → RE O P H H1 x v → RE O P H H1 y u → g x y = some r → Fn E O P H H1 Q r → t v u H1) :
    tE E fa σ H fun v H1 => tE E fb σ H1 fun u H2 => t v u H2 := by
  refine tE_bd (g := fun δ x => bd (fb δ) fun y => g x y) h fun O P δ x r v H1 rs rs1 s1 rx e q => ?_
  rcases bd_cases e with ⟨y, e1, e2⟩ | ⟨c, e1, e2⟩
  · refine ⟨O, P, δ, .ok y, rs1, e1, fun u H2 s2 ry => k O P x y r v u H2 rs.dom (s1.trans s2) (rx.on s2) (ry.from s1) e2 (q.on s2)⟩
  · subst e2
    exact ⟨O, P, δ, .error c, rs1, e1, q⟩
theorem px_op {a b : Expr} {o : Operator} {fa fb : DS → M DV} {g : DV → DV → M DV} {pos : Pos} (ho : OpV X E (binaryOp o) g) (ha : PX X E a fa) (hb : PX X E b fb) : PX X E (.BinOp a o b pos) (e2 g fa fb) := by
  intro pins s σ H Q I h
  exact wpAny_BinOp (bin ha hb I (t2 h (t := fun v u H1 => ∃ O P x y r, (∀ a, a ∈ P ++ O → ∃ o, H a = some o) ∧ Same H H1 ∧ RE O P H H1 x v ∧ RE O P H H1 y u ∧ g x y = some r ∧ Fn E O P H H1 Q r) fun O P x y r v u H1 h1 h2 h3 h4 h5 h6 => ⟨O, P, x, y, r, h1, h2, h3, h4, h5, h6⟩)
    fun vv uu s2 v u H2 I2 rv ru ⟨O, P, x, y, r, h1, h2, h3, h4, h5, h6⟩ => ho pins s2 σ O P H H2 x y v u vv uu r Q I2 h1 h2 h3 h4 rv ru h5 h6)
theorem px_cmp {a b : Expr} {o : CmpOp} {fa fb : DS → M DV} {g : DV → DV → M DV} {pos : Pos} (ho : OpV X E (compareOp o) g) (ha : PX X E a fa) (hb : PX X E b fb) (hm : behindInMarks o b = false := by first | exact nomark _ | rfl) : PX X E (.Compare a [o] [b] pos) (e2 g fa fb) := by
  intro pins s σ H Q I h
  exact wpAny_Compare1 (bin ha hb I (t2 h (t := fun v u H1 => ∃ O P x y r, (∀ a, a ∈ P ++ O → ∃ o, H a = some o) ∧ Same H H1 ∧ RE O P H H1 x v ∧ RE O P H H1 y u ∧ g x y = some r ∧ Fn E O P H H1 Q r) fun O P x y r v u H1 h1 h2 h3 h4 h5 h6 => ⟨O, P, x, y, r, h1, h2, h3, h4, h5, h6⟩)
    fun vv uu s2 v u H2 I2 rv ru ⟨O, P, x, y, r, h1, h2, h3, h4, h5, h6⟩ => ho pins s2 σ O P H H2 x y v u vv uu r Q I2 h1 h2 h3 h4 rv ru h5 h6) hm
noncomputable def gI (C : Int → Int → Bool) (h : Int → Int → D) (x y : DV) : M DV := match x, y with
  | .d (.int i), .d (.int j) => if C i j = true then rt (.d (h i j)) else none
  | _, _ => none
theorem gI_cases {C : Int → Int → Bool} {h : Int → Int → D} {x y : DV} {r : Except Value DV} (e : gI C h x y = some r) : ∃ i j, x = .d (.int i) ∧ y = .d (.int j) ∧ C i j = true ∧ r = .ok (.d (h i j)) := by
  unfold gI at e
  split at e
  · rename_i i j
    split at e
    · cases e; exact ⟨i, j, rfl, rfl, by assumption, rfl⟩
    · cases e
  · cases e
theorem opv_int {f : Value → Value → Sem Value} {C : Int → Int → Bool} {CP : Int → Int → Prop} {h : Int → Int → D} {hv : Int → Int → V} (ho : OpR X f (rI CP hv)) (hC : ∀ i j, C i j = true → CP i j) (hr : ∀ i j Z H, Rp Z H (h i j) (hv i j)) : OpV X E f (gI C h) :=
  OpV.rule ho fun O P H₀ H x y v u r Q hd hs rx ry e q => by
    obtain ⟨i, j, rfl, rfl, hc, rfl⟩ := gI_cases e
    cases rx; cases ry
    exact ⟨i, j, rfl, rfl, hC i j hc, q _ H (Same.refl H) (hr i j _ _)⟩
noncomputable def yes2 (_ _ : Int) : Bool := true
theorem opv_int0 {f : Value → Value → Sem Value} {h : Int → Int → D} {hv : Int → Int → V} (ho : OpR X f (rI0 hv)) (hr : ∀ i j Z H, Rp Z H (h i j) (hv i j)) : OpV X E f (gI yes2 h) :=
  OpV.rule ho fun O P H₀ H x y v u r Q hd hs rx ry e q => by
    obtain ⟨i, j, rfl, rfl, hc, rfl⟩ := gI_cases e
    cases rx; cases ry
    exact ⟨i, j, rfl, rfl, q _ H (Same.refl H) (hr i j _ _)⟩
noncomputable def gAdd := gI yes2 fun i j => .int (i + j)
noncomputable def gSub := gI yes2 fun i j => .int (i - j)
noncomputable def cMul (i j : Int) : Bool := (decide (-(2 ^ 64) < i) && decide (i < 2 ^ 64)) || (decide (-(2 ^ 64) < j) && decide (j < 2 ^ 64))
noncomputable def gMul := gI cMul fun i j => .int (i * j)
noncomputable def cDiv (_ j : Int) : Bool := decide (0 < j) && decide (j < 1073741824)
noncomputable def gDiv := gI cDiv fun i j => .int (i / j)
noncomputable def cMod (_ j : Int) : Bool := decide (0 < j)
noncomputable def gMod := gI cMod fun i j => .int (i % j)
noncomputable def gLt := gI yes2 fun i j => .bool (decide (i < j))
noncomputable def gLe := gI yes2 fun i j => .bool (decide (i ≤ j))
noncomputable def gGt := gI yes2 fun i j => .bool (decide (j < i))
noncomputable def gGe := gI yes2 fun i j => .bool (decide (j ≤ i))
theorem ov_add : OpV X E (binaryOp .Add) gAdd := opv_int0 op_add fun _ _ _ _ => .int _
theorem ov_sub : OpV X E (binaryOp .Sub) gSub := opv_int0 op_sub fun _ _ _ _ => .int _
theorem ov_mul : OpV X E (binaryOp .Mult) gMul := opv_int op_mul (fun i j h => by simpa [cMul, CMul] using h) fun _ _ _ _ => .int _
theorem ov_div : OpV X E (binaryOp .FloorDiv) gDiv := opv_int op_fdiv (fun i j h => by simpa [cDiv, CDiv] using h) fun _ _ _ _ => .int _
theorem ov_mod : OpV X E (binaryOp .Mod) gMod := opv_int op_mod (fun i j h => by simpa [cMod] using h) fun _ _ _ _ => .int _
theorem ov_lt : OpV X E (compareOp .Lt) gLt := opv_int0 op_lt fun _ _ _ _ => .bool _
theorem ov_le : OpV X E (compareOp .LtE) gLe := opv_int0 op_le fun _ _ _ _ => .bool _
theorem ov_gt : OpV X E (compareOp .Gt) gGt := opv_int0 op_gt fun _ _ _ _ => .bool _
theorem ov_ge : OpV X E (compareOp .GtE) gGe := opv_int0 op_ge fun _ _ _ _ => .bool _
end
end L3
set_option Elab.async false
set_option linter.all false
set_option maxRecDepth 100000
set_option maxHeartbeats 4000000
set_option autoImplicit false
namespace L3
open PySem PySem.Spec L2
open PyProof.Rows hiding St
noncomputable def asQ : DV → Option D
  | .d x => some x
  | .own xs => some (.list xs)
  | .new xs => some (.list xs)
  | _ => none
@[simp] theorem asQ_d (x : D) : asQ (.d x) = some x := rfl
@[simp] theorem asQ_own (xs : List D) : asQ (.own xs) = some (.list xs) := rfl
@[simp] theorem asQ_new (xs : List D) : asQ (.new xs) = some (.list xs) := rfl
section
variable {X : Cx} {E : XK}
theorem reads_list {pins : List (Addr × Obj)} {σ : St} {H : Hp} {s : Shared} (I : Inv X pins σ H s) {Z : List Addr} {a : Addr} {xs : List D} {vs : List V} (q : H a = some (.lst vs)) (l : RpL Z H xs vs) : ∃ as, Reads s.heap (.ref a) (.list xs) as := by
  obtain ⟨its, rv, ⟨o, n, e, c, _, dd⟩, _⟩ := I.list (SqL.of q)
  obtain ⟨as, ra⟩ := RpL.reads I l rv
  exact ⟨_, .list e c dd (by simpa using ra)⟩
theorem RE.reads {pins : List (Addr × Obj)} {σ : St} {O P : List Addr} {H₀ H : Hp} {s : Shared} {x : DV} {v : V} {u : Value} {d : D} (I : Inv X pins σ H s) (r : RE O P H₀ H x v) (ru : RelV v u) (h : asQ x = some d) : (∃ as, Reads s.heap u d as) ∧ d.canLay0 = true := by
  cases x with
  | d y =>
    cases h
    have r' : Rp (P ++ O) H d v := r
    exact ⟨Rp.reads I r' ru, r'.lay⟩
  | ob C fs => cases h
  | tbl kvs => cases h
  | ex q => cases h
  | own xs =>
    cases h
    obtain ⟨a, vs, rfl, hP, ha, hl⟩ := r
    cases ru
    exact ⟨reads_list I ha hl, by unfold PyData.canLay0; exact hl.lay⟩
  | new xs =>
    cases h
    obtain ⟨a, vs, rfl, hn, ha, hl⟩ := r
    cases ru
    exact ⟨reads_list I ha hl, by unfold PyData.canLay0; exact hl.lay⟩
  | scr K ns => cases h
noncomputable def gEq (neg : Bool) (x y : DV) : M DV := match asQ x, asQ y with
  | some a, some b => if a.depth ≤ 60 then rt (.d (.bool (if neg = true then !PyData.eqv a b else PyData.eqv a b))) else none
  | _, _ => none
theorem gEq_cases {neg : Bool} {x y : DV} {r : Except Value DV} (e : gEq neg x y = some r) : ∃ a b, asQ x = some a ∧ asQ y = some b ∧ a.depth ≤ 60 ∧ r = .ok (.d (.bool (if neg = true then !PyData.eqv a b else PyData.eqv a b))) := by
  unfold gEq at e
  split at e
  · rename_i a b h1 h2
    split at e
    · cases e; exact ⟨a, b, h1, h2, by assumption, rfl⟩
    · cases e
  · cases e
theorem ov_eq (hu : X.A.units + 64 < cLine) : OpV X E (compareOp .Eq) (gEq false) := fun pins s σ O P H₀ H x y v u vv uu r Q I hd hs rx ry ev eu e q => by
  obtain ⟨a, b, h1, h2, hdp, rfl⟩ := gEq_cases e
  obtain ⟨⟨as, ra⟩, la⟩ := rx.reads I ev h1
  obtain ⟨⟨bs, rb⟩, lb⟩ := ry.reads I eu h2
  exact SeqAt.compareEq_reads ra rb la lb (by have := Nat.min_le_left a.depth b.depth; lia) ⟨.bl _, H, I, rfl, q _ H (Same.refl H) (.bool _)⟩
theorem ov_ne (hu : X.A.units + 64 < cLine) : OpV X E (compareOp .NotEq) (gEq true) := fun pins s σ O P H₀ H x y v u vv uu r Q I hd hs rx ry ev eu e q => by
  obtain ⟨a, b, h1, h2, hdp, rfl⟩ := gEq_cases e
  obtain ⟨⟨as, ra⟩, la⟩ := rx.reads I ev h1
  obtain ⟨⟨bs, rb⟩, lb⟩ := ry.reads I eu h2
  exact SeqAt.compareNe_reads ra rb la lb (by have := Nat.min_le_left a.depth b.depth; lia) ⟨.bl _, H, I, rfl, q _ H (Same.refl H) (.bool _)⟩
noncomputable def gIn (neg : Bool) (x y : DV) : M DV := match asQ x, asQ y with
  | some a, some (.list ys) => if a.depth ≤ 60 then rt (.d (.bool (if neg = true then !ys.any (fun z => PyData.eqv z a) else ys.any fun z => PyData.eqv z a))) else none
  | some a, some (.tuple ys) => if a.depth ≤ 60 then rt (.d (.bool (if neg = true then !ys.any (fun z => PyData.eqv z a) else ys.any fun z => PyData.eqv z a))) else none
  | _, _ => none
theorem gIn_cases {neg : Bool} {x y : DV} {r : Except Value DV} (e : gIn neg x y = some r) : ∃ a ys, asQ x = some a ∧ (asQ y = some (.list ys) ∨ asQ y = some (.tuple ys)) ∧ a.depth ≤ 60 ∧ r = .ok (.d (.bool (if neg = true then !ys.any (fun z => PyData.eqv z a) else ys.any fun z => PyData.eqv z a))) := by
  unfold gIn at e
  split at e
  · rename_i a b h1 h2
    split at e
    · cases e; exact ⟨a, _, h1, .inl h2, by assumption, rfl⟩
    · cases e
  · rename_i a b h1 h2
    split at e
    · cases e; exact ⟨a, _, h1, .inr h2, by assumption, rfl⟩
    · cases e
  · cases e
theorem ov_in (hu : X.A.units + 64 < cLine) : OpV X E (compareOp .In) (gIn false) := fun pins s σ O P H₀ H x y v u vv uu r Q I hd hs rx ry ev eu e q => by
  obtain ⟨a, ys, h1, h2, hdp, rfl⟩ := gIn_cases e
  obtain ⟨⟨as, ra⟩, la⟩ := rx.reads I ev h1
  rcases h2 with h2 | h2
  · obtain ⟨⟨bs, rb⟩, lb⟩ := ry.reads I eu h2
    unfold PyData.canLay0 at lb
    exact SeqAt.in_list_reads rb ra lb la (by have := Nat.min_le_right (PyData.depthAll ys) a.depth; lia) ⟨.bl _, H, I, rfl, q _ H (Same.refl H) (.bool _)⟩
  · obtain ⟨⟨bs, rb⟩, lb⟩ := ry.reads I eu h2
    unfold PyData.canLay0 at lb
    exact SeqAt.in_tuple_reads rb ra lb la (by have := Nat.min_le_right (PyData.depthAll ys) a.depth; lia) ⟨.bl _, H, I, rfl, q _ H (Same.refl H) (.bool _)⟩
noncomputable def gC (st : Bool) (x y : DV) : M DV := match x, y with
  | .d a, .d b => if a.depth ≤ 60 then bd (op (cD st a b)) fun k => rt (.d (.bool k)) else none
  | _, _ => none
theorem ov_cmp (st : Bool) (hu : X.A.units + 64 < cLine) : OpV X E (compareOp (cOp st)) (gC st) := fun pins s σ O P H₀ H x y v u vv uu r Q I hd hs rx ry ev eu e q => by
  unfold gC at e
  split at e
  · rename_i a b
    split at e
    · rename_i hdp
      cases hk : cD st a b with
      | none => rw [hk] at e; cases e
      | some k =>
        rw [hk] at e
        cases e
        obtain ⟨⟨as, ra⟩, la⟩ := rx.reads I ev (d := a) rfl
        obtain ⟨⟨bs, rb⟩, lb⟩ := ry.reads I eu (d := b) rfl
        have h := rcL_reads _ st a b X.A s vv uu as bs k (Nat.lt_succ_self _) ra rb la lb (by lia) hk X.prog X.w X.xe (EP X pins σ Q) ⟨.bl _, H, I, rfl, q _ H (Same.refl H) (.bool _)⟩
        cases st with
        | true => exact h
        | false => exact h
    · cases e
  · cases e
theorem ov_ltD (hu : X.A.units + 64 < cLine) : OpV X E (compareOp .Lt) (gC true) := ov_cmp true hu
theorem ov_leD (hu : X.A.units + 64 < cLine) : OpV X E (compareOp .LtE) (gC false) := ov_cmp false hu
noncomputable def gCat (x y : DV) : M DV := match asL x, asL y with
  | some xs, some ys => if xs.length + ys.length ≤ 1000000 then rt (.new (xs ++ ys)) else none
  | _, _ => none
theorem line_big {n : Nat} (h : n ≤ 1000000) : n ≤ sizeLine := Nat.le_trans h (by rw [sizeLine_eq]; decide)
theorem fresh_z {O P : List Addr} {H₀ H : Hp} {p : Addr} (hd : ∀ a, a ∈ P ++ O → ∃ o, H₀ a = some o) (hs : Same H₀ H) (hp : H p = none) : p ∉ P ++ O := fun h => by
  obtain ⟨o, e⟩ := hd p h
  rw [hs p o e] at hp; cases hp
theorem same_upd {H : Hp} {p : Addr} {o : HO} (hp : H p = none) : Same H (upd H p o) := fun b u e => by rw [upd_ne (ne_of_none e hp)]; exact e
theorem kp_upd {Z : List Addr} {H : Hp} {p : Addr} {o : HO} (hp : H p = none) : Kp Z H (p :: Z) (upd H p o) := ⟨fun a u _ e => same_upd hp a u e, fun a ha => by
  rcases List.mem_cons.mp ha with e | e
  · subst e; exact .inr hp
  · exact .inl e⟩
theorem RE.made {O P : List Addr} {H₀ H : Hp} {p : Addr} {xs : List D} {vs : List V} (hs : Same H₀ H) (hp : H p = none) (l : RpL (P ++ O) H xs vs) : RE O P H₀ (upd H p (.lst vs)) (.new xs) (.ref p) :=
  ⟨p, vs, rfl, hs.free hp, upd_same, l.kp (kp_upd hp)⟩
theorem madeT {O P : List Addr} {H₀ H : Hp} {p : Addr} {xs : List D} {vs : List V} (hd : ∀ a, a ∈ P ++ O → ∃ o, H₀ a = some o) (hs : Same H₀ H) (hp : H p = none) (l : RpL (P ++ O) H xs vs) : RE O P H₀ (upd H p (.tup vs)) (.d (.tuple xs)) (.ref p) :=
  .tup (fresh_z hd hs hp) upd_same (l.kp (.same (same_upd hp)))
theorem gCat_cases {x y : DV} {r : Except Value DV} (e : gCat x y = some r) : ∃ xs ys, asL x = some xs ∧ asL y = some ys ∧ xs.length + ys.length ≤ 1000000 ∧ r = .ok (.new (xs ++ ys)) := by
  unfold gCat at e
  split at e
  · rename_i xs ys h1 h2
    split at e
    · cases e; exact ⟨xs, ys, h1, h2, by assumption, rfl⟩
    · cases e
  · cases e
theorem ov_cat : OpV X E (binaryOp .Add) gCat := OpV.rule op_cat fun O P H₀ H x y v u r Q hd hs rx ry e q => by
  obtain ⟨xs, ys, h1, h2, hz, rfl⟩ := gCat_cases e
  obtain ⟨a, vs, rfl, ha, la⟩ := rx.list h1
  obtain ⟨b, us, rfl, hb, lb⟩ := ry.list h2
  exact ⟨a, b, vs, us, rfl, rfl, ha, hb, line_big (by rw [← la.length, ← lb.length]; exact hz), fun p hp => q _ _ (same_upd hp) (RE.made hs hp (la.append lb))⟩
noncomputable def gRep (x y : DV) : M DV := match asL x, y with
  | some xs, .d (.int k) => if xs.length * k.toNat ≤ 1000000 ∧ -(2 ^ 63) ≤ k ∧ k < 2 ^ 63 then rt (.new (List.replicate k.toNat xs).flatten) else none
  | _, _ => none
theorem ov_rep : OpV X E (binaryOp .Mult) gRep := OpV.rule op_rep fun O P H₀ H x y v u r Q hd hs rx ry e q => by
  unfold gRep at e
  split at e
  · rename_i xs k h1
    split at e
    · rename_i hz
      cases e
      obtain ⟨a, vs, rfl, ha, la⟩ := rx.list h1
      cases ry
      exact ⟨a, k, vs, rfl, rfl, ha, hz.2.1, hz.2.2, line_big (by rw [← la.length]; exact hz.1), fun p hp => q _ _ (same_upd hp) (RE.made hs hp (la.rep _))⟩
    · cases e
  · cases e
noncomputable def gOr (g g' : DV → DV → M DV) (x y : DV) : M DV := match g x y with
  | none => g' x y
  | some r => some r
theorem OpV.or {f : Value → Value → Sem Value} {g g' : DV → DV → M DV} (h : OpV X E f g) (h' : OpV X E f g') : OpV X E f (gOr g g') := fun pins s σ O P H₀ H x y v u vv uu r Q I hd hs rx ry ev eu e q => by
  unfold gOr at e
  cases hg : g x y with
  | none => rw [hg] at e; exact h' pins s σ O P H₀ H x y v u vv uu r Q I hd hs rx ry ev eu e q
  | some r' => rw [hg] at e; cases e; exact h pins s σ O P H₀ H x y v u vv uu r Q I hd hs rx ry ev eu hg q
end
end L3
set_option Elab.async false
set_option linter.all false
set_option maxRecDepth 100000
set_option maxHeartbeats 4000000
set_option autoImplicit false
namespace L3
open PySem PySem.Spec L2
open PyProof.Rows hiding St
theorem bd_assoc {α β γ : Type} (m : M α) (f : α → M β) (g : β → M γ) : bd (bd m f) g = bd m fun a => bd (f a) g := by
  cases m with
  | none => rfl
  | some z => cases z <;> rfl
noncomputable def tru : DV → M Bool
  | .d (.bool b) => rt b
  | _ => none
@[simp] theorem tru_b (b : Bool) : tru (.d (.bool b)) = rt b := rfl
theorem tru_cases {x : DV} {r : Except Value Bool} (h : tru x = some r) : ∃ b, x = .d (.bool b) ∧ r = .ok b := by
  unfold tru at h
  split at h
  · rename_i b
    cases h; exact ⟨b, rfl, rfl⟩
  · cases h
section
variable {X : Cx} {E : XK} {a b c e : Expr} {pos : Pos} {fa fb fc f : DS → M DV} {ga gb : DS → M Bool}
theorem tru_end {O P : List Addr} {H₀ H : Hp} {x : DV} {v : V} {r : Except Value Bool} {Q : Bool → Hp → Prop} (rx : RE O P H₀ H x v) (h : tru x = some r) (q : FnB E H Q r) : ∃ k, v = .bl k ∧ Q k H := by
  obtain ⟨k, rfl, rfl⟩ := tru_cases h
  cases rx
  exact ⟨k, rfl, q H (Same.refl H)⟩
theorem pb_val (h : PX X E e f) (he : ∀ whole, isTrue e X.env whole = (do let v ← whole; standAt e.pos; holding [v] (truthy v)) := by intro _; rfl) : PB X E e (fun δ => bd (f δ) tru) :=
  PT.mono (pt_val h he) fun σ H Q q => tE_bdB (g := fun _ => tru) q fun O P δ x r v H1 rs rs1 s1 rx e' q' => tru_end rx e' q'
theorem t2B {g : DV → DV → M DV} {σ : St} {H : Hp} {Q : Bool → Hp → Prop} (h : tBo E (fun δ => bd (e2 g fa fb δ) tru) σ H Q) {t : V → V → Hp → Prop}
    (k : ∀ O P x y r v u H1, (∀ a, a ∈ P ++ O → ∃ o, H a = some o) → Same H H1 → RE O P H H1 x v → RE O P H H1 y u → bd (g x y) tru = some r → FnB E H1 Q r → t v u H1) :
    tE E fa σ H fun v H1 => tE E fb σ H1 fun u H2 => t v u H2 := by
  have h' : tBo E (fun δ => bd (fa δ) fun x => bd (bd (fb δ) fun y => g x y) tru) σ H Q := by
    obtain ⟨O, P, δ, r, rs, e, q⟩ := h
    exact ⟨O, P, δ, r, rs, (bd_assoc _ _ _).symm.trans e, q⟩
  refine tE_bdB (g := fun δ x => bd (bd (fb δ) fun y => g x y) tru) h' fun O P δ x r v H1 rs rs1 s1 rx e q => ?_
  rcases bd_cases e with ⟨z, e1, e2⟩ | ⟨c, e1, e2⟩
  · rcases bd_cases e1 with ⟨y, e3, e4⟩ | ⟨c, e3, e4⟩
    · exact ⟨O, P, δ, .ok y, rs1, e3, fun u H2 s2 ry => k O P x y r v u H2 rs.dom (s1.trans s2) (rx.on s2) (ry.from s1) (by rw [e4]; exact e2) (q.on s2)⟩
    · cases e4
  · rcases bd_cases e1 with ⟨y, e3, e4⟩ | ⟨c', e3, e4⟩
    · exact ⟨O, P, δ, .ok y, rs1, e3, fun u H2 s2 ry => k O P x y r v u H2 rs.dom (s1.trans s2) (rx.on s2) (ry.from s1) (by rw [e4]; subst e2; rfl) (q.on s2)⟩
    · cases e4
      subst e2
      exact ⟨O, P, δ, .error c, rs1, e3, q⟩
theorem OpV.test {o : Value → Value → Sem Value} {g : DV → DV → M DV} (ho : OpV X E o g) {pins : List (Addr × Obj)} {s : Shared} {σ : St} {O P : List Addr} {H₀ H : Hp} {x y : DV} {v u : V} {vv uu : Value} {r : Except Value Bool} {Q : Bool → Hp → Prop}
    (I : Inv X pins σ H s) (hd : ∀ a, a ∈ P ++ O → ∃ o, H₀ a = some o) (hs : Same H₀ H) (rx : RE O P H₀ H x v) (ry : RE O P H₀ H y u) (ev : RelV v vv) (eu : RelV u uu) (e : bd (g x y) tru = some r) (q : FnB E H Q r) :
    wpAny (model X.prog X.w) X.A (o vv uu) (EP X pins σ fun z H2 => ∃ k, z = .bl k ∧ Q k H2) X.xe s := by
  rcases bd_cases e with ⟨z, e1, e2⟩ | ⟨c, e1, e2⟩
  · refine ho pins s σ O P H₀ H x y v u vv uu (.ok z) _ I hd hs rx ry ev eu e1 fun w H2 s2 rz => tru_end rz e2 (q.on s2)
  · subst e2
    exact ho pins s σ O P H₀ H x y v u vv uu (.error c) _ I hd hs rx ry ev eu e1 q
theorem pb_cmp {o : CmpOp} {g : DV → DV → M DV} (ho : OpV X E (compareOp o) g) (ha : PX X E a fa) (hb : PX X E b fb) (hm : behindInMarks o b = false := by first | exact nomark _ | rfl) : PB X E (.Compare a [o] [b] pos) (fun δ => bd (e2 g fa fb δ) tru) := by
  intro pins s σ H Q I h
  refine wpAny_isTrue_Compare1 (bin ha hb I (t2B h (t := fun v u H1 => ∃ O P x y r, (∀ a, a ∈ P ++ O → ∃ o, H a = some o) ∧ Same H H1 ∧ RE O P H H1 x v ∧ RE O P H H1 y u ∧ bd (g x y) tru = some r ∧ FnB E H1 Q r) fun O P x y r v u H1 h1 h2 h3 h4 h5 h6 => ⟨O, P, x, y, r, h1, h2, h3, h4, h5, h6⟩)
    fun vv uu s2 v u H2 I2 rv ru ⟨O, P, x, y, r, h1, h2, h3, h4, h5, h6⟩ => thn (ho.test I2 h1 h2 h3 h4 rv ru h5 h6) fun d s3 ⟨z, H3, I3, r3, k, ez, q3⟩ => ?_) hm
  subst ez
  cases r3
  exact wpAny_truthy_bool ⟨H3, I3, q3⟩
noncomputable def eCh (g g' : DV → DV → M DV) (fa fb fc : DS → M DV) (δ : DS) : M DV := bd (fa δ) fun x => bd (fb δ) fun y => bd (bd (g x y) tru) fun k => if k = true then bd (fc δ) fun z => g' y z else rt (.d (.bool false))
theorem t3 {g g' : DV → DV → M DV} {σ : St} {H : Hp} {Q : VK} (h : tE E (eCh g g' fa fb fc) σ H Q) {t : V → V → Hp → Prop}
    (k : ∀ O P δ x y r v u H1, RS O P H σ δ → RS O P H1 σ δ → Same H H1 → RE O P H H1 x v → RE O P H H1 y u → (bd (bd (g x y) tru) fun k => if k = true then bd (fc δ) fun z => g' y z else rt (.d (.bool false))) = some r → Fn E O P H H1 Q r → t v u H1) :
    tE E fa σ H fun v H1 => tE E fb σ H1 fun u H2 => t v u H2 := by
  refine tE_bd (g := fun δ x => bd (fb δ) fun y => bd (bd (g x y) tru) fun k => if k = true then bd (fc δ) fun z => g' y z else rt (.d (.bool false))) h fun O P δ x r v H1 rs rs1 s1 rx e q => ?_
  rcases bd_cases e with ⟨y, e1, e2⟩ | ⟨c, e1, e2⟩
  · exact ⟨O, P, δ, .ok y, rs1, e1, fun u H2 s2 ry => k O P δ x y r v u H2 rs (rs1.same s2) (s1.trans s2) (rx.on s2) (ry.from s1) e2 (q.on s2)⟩
  · subst e2
    exact ⟨O, P, δ, .error c, rs1, e1, q⟩
theorem px_chain {o o' : CmpOp} {g g' : DV → DV → M DV} (ho : OpV X E (compareOp o) g) (ho' : OpV X E (compareOp o') g') (ha : PX X E a fa) (hb : PX X E b fb) (hc : PX X E c fc)
    (hm : lastMarks [o, o'] [b, c] = false := by with_unfolding_all rfl) : PX X E (.Compare a [o, o'] [b, c] pos) (eCh g g' fa fb fc) := by
  intro pins s σ H Q I h
  refine Compare_chain (thn (ha pins s σ H _ I (t3 h (t := fun v u H1 => ∃ O P δ x y r, RS O P H σ δ ∧ RS O P H1 σ δ ∧ Same H H1 ∧ RE O P H H1 x v ∧ RE O P H H1 y u ∧ (bd (bd (g x y) tru) fun k => if k = true then bd (fc δ) fun z => g' y z else rt (.d (.bool false))) = some r ∧ Fn E O P H H1 Q r)
    fun O P δ x y r v u H1 h1 h2 h3 h4 h5 h6 h7 => ⟨O, P, δ, x, y, r, h1, h2, h3, h4, h5, h6, h7⟩)) fun vv s1 ⟨v, H1, I1, r1, q1⟩ => chain_link (thn (hb pins s1 σ H1 _ I1 q1) fun uu s2 ⟨u, H2, I2, r2, q2⟩ => ?_)) hm
  obtain ⟨O, P, δ, x, y, r, h1, h2, h3, h4, h5, h6, h7⟩ := q2
  rcases bd_cases h6 with ⟨k, e1, e2⟩ | ⟨cx, e1, e2⟩
  · refine thn (ho.test (Q := fun k' H3 => k' = k ∧ Same H2 H3) I2 h1.dom h3 h4 h5 r1 r2 e1 fun H3 s3 => ⟨rfl, s3⟩) fun d s3 ⟨z, H3, I3, r3, k', ez, ek, s3'⟩ => ?_
    subst ez ek
    cases r3
    refine wpAny_truthy_bool ?_
    cases k' with
    | false =>
      cases e2
      exact ite_ff ⟨.bl false, H3, I3, rfl, h7 _ H3 s3' (.bool false)⟩
    | true =>
      simp only [if_true] at e2
      refine ite_tt (chain_last (thn (hc pins s3 σ H3 (fun w' H4 => ∃ zz, RE O P H H4 zz w' ∧ Same H3 H4 ∧ g' y zz = some r) I3 ?_) fun ww s4 ⟨w', H4, I4, r4, zz, q4, s4', e4⟩ => ?_))
      · rcases bd_cases e2 with ⟨zz, e3, e4⟩ | ⟨cc, e3, e4⟩
        · exact ⟨O, P, δ, .ok zz, h2.same s3', e3, fun w' H4 s4 rz => ⟨zz, rz.from (h3.trans s3'), s4, e4⟩⟩
        · subst e4
          exact ⟨O, P, δ, .error cc, h2.same s3', e3, h7.on s3'⟩
      · exact ho' pins s4 σ O P H H4 y zz u w' uu ww r Q I4 h1.dom (h3.trans (s3'.trans s4')) (h5.on (s3'.trans s4')) q4 r2 r4 e4 (h7.on (s3'.trans s4'))
  · subst e2
    exact thn (ho.test (Q := fun _ _ => False) I2 h1.dom h3 h4 h5 r1 r2 e1 h7) fun d s3 ⟨z, H3, I3, r3, k', ez, q3⟩ => q3.elim
theorem pb_chain {o o' : CmpOp} {g g' : DV → DV → M DV} (ho : OpV X E (compareOp o) g) (ho' : OpV X E (compareOp o') g') (ha : PX X E a fa) (hb : PX X E b fb) (hc : PX X E c fc)
    (hm : lastMarks [o, o'] [b, c] = false := by with_unfolding_all rfl) : PB X E (.Compare a [o, o'] [b, c] pos) (fun δ => bd (eCh g g' fa fb fc δ) tru) := by
  intro pins s σ H Q I h
  have h' : tE E (eCh g g' fa fb fc) σ H (fun z H' => ∃ k, z = .bl k ∧ Q k H') := tE_bdB (g := fun _ => tru) h fun O P δ x r v H1 rs rs1 s1 rx e' q' => tru_end rx e' q'
  refine isTrue_chain (thn (ha pins s σ H _ I (t3 h' (t := fun v u H1 => ∃ O P δ x y r, RS O P H σ δ ∧ RS O P H1 σ δ ∧ Same H H1 ∧ RE O P H H1 x v ∧ RE O P H H1 y u ∧ (bd (bd (g x y) tru) fun k => if k = true then bd (fc δ) fun z => g' y z else rt (.d (.bool false))) = some r ∧ Fn E O P H H1 (fun z H' => ∃ k, z = .bl k ∧ Q k H') r)
    fun O P δ x y r v u H1 h1 h2 h3 h4 h5 h6 h7 => ⟨O, P, δ, x, y, r, h1, h2, h3, h4, h5, h6, h7⟩)) fun vv s1 ⟨v, H1, I1, r1, q1⟩ => test_link (thn (hb pins s1 σ H1 _ I1 q1) fun uu s2 ⟨u, H2, I2, r2, q2⟩ => ?_)) hm
  obtain ⟨O, P, δ, x, y, r, h1, h2, h3, h4, h5, h6, h7⟩ := q2
  rcases bd_cases h6 with ⟨k, e1, e2⟩ | ⟨cx, e1, e2⟩
  · refine thn (ho.test (Q := fun k' H3 => k' = k ∧ Same H2 H3) I2 h1.dom h3 h4 h5 r1 r2 e1 fun H3 s3 => ⟨rfl, s3⟩) fun d s3 ⟨z, H3, I3, r3, k', ez, ek, s3'⟩ => ?_
    subst ez ek
    cases r3
    refine wpAny_truthy_bool ?_
    cases k' with
    | false =>
      cases e2
      obtain ⟨k2, ek2, q7⟩ := h7 _ H3 s3' (Rp.bool false)
      cases ek2
      exact ite_ff ⟨H3, I3, q7⟩
    | true =>
      simp only [if_true] at e2
      refine ite_tt (test_last (thn (hc pins s3 σ H3 (fun w' H4 => ∃ zz, RE O P H H4 zz w' ∧ Same H3 H4 ∧ g' y zz = some r) I3 ?_) fun ww s4 ⟨w', H4, I4, r4, zz, q4, s4', e4⟩ => ?_))
      · rcases bd_cases e2 with ⟨zz, e3, e4⟩ | ⟨cc, e3, e4⟩
        · exact ⟨O, P, δ, .ok zz, h2.same s3', e3, fun w' H4 s4 rz => ⟨zz, rz.from (h3.trans s3'), s4, e4⟩⟩
        · subst e4
          exact ⟨O, P, δ, .error cc, h2.same s3', e3, h7.on s3'⟩
      · refine thn (ho' pins s4 σ O P H H4 y zz u w' uu ww r _ I4 h1.dom (h3.trans (s3'.trans s4')) (h5.on (s3'.trans s4')) q4 r2 r4 e4 (h7.on (s3'.trans s4'))) fun d' s5 ⟨z2, H5, I5, r5, k2, ek2, q5⟩ => ?_
        subst ek2
        cases r5
        exact wpAny_truthy_bool ⟨H5, I5, q5⟩
  · subst e2
    exact thn (ho.test (Q := fun _ _ => False) I2 h1.dom h3 h4 h5 r1 r2 e1 h7) fun d s3 ⟨z, H3, I3, r3, k', ez, q3⟩ => q3.elim
noncomputable def PWb (X : Cx) (E : XK) (e : Expr) (f : DS → M Bool) : Prop := PW X e (tBo E f)
theorem PWb.pb (h : PWb X E e ga) : PB X E e ga := PW.pt h
noncomputable def bAnd (ga gb : DS → M Bool) (δ : DS) : M Bool := bd (ga δ) fun k => if k = true then gb δ else rt false
noncomputable def bOr (ga gb : DS → M Bool) (δ : DS) : M Bool := bd (ga δ) fun k => if k = true then rt true else gb δ
noncomputable def bNot (ga : DS → M Bool) (δ : DS) : M Bool := bd (ga δ) fun k => rt (!k)
theorem PW.mono {t t' : TT} (h : PW X e t) (m : ∀ σ H Q, t' σ H Q → t σ H Q) : PW X e t' := fun wh pins s σ H Q I q => h wh pins s σ H Q I (m σ H Q q)
variable {rest : List Expr}
theorem pb_or1 (h : PB X E a ga) : PWb X E (.BoolOp .Or [a] pos) ga := pw_or1 h
theorem pb_or (ha : PB X E a ga) (hb : PWb X E (.BoolOp .Or (b :: rest) pos) gb) : PWb X E (.BoolOp .Or (a :: b :: rest) pos) (bOr ga gb) :=
  PW.mono (pw_or ha hb) fun σ H Q q => tB_bdB (g := fun δ k => if k = true then rt true else gb δ) q fun O P δ k r H1 rs rs1 s1 e q => by
    cases k with
    | false => exact ⟨O, P, δ, r, rs1, e, q⟩
    | true => cases e; exact q H1 (Same.refl H1)
theorem pb_not (ha : PB X E a ga) : PB X E (.UnaryOp .Not a pos) (bNot ga) :=
  PT.mono (pt_not ha) fun σ H Q q => tB_bdB (g := fun δ k => rt (!k)) q fun O P δ k r H1 rs rs1 s1 e q => by
    cases e; exact q H1 (Same.refl H1)
noncomputable def eAnd (fa fb : DS → M DV) (δ : DS) : M DV := bd (bd (fa δ) tru) fun k => if k = true then fb δ else rt (.d (.bool false))
noncomputable def eOr (fa fb : DS → M DV) (δ : DS) : M DV := bd (bd (fa δ) tru) fun k => if k = true then rt (.d (.bool true)) else fb δ
noncomputable def eNot (fa : DS → M DV) (δ : DS) : M DV := bd (bd (fa δ) tru) fun k => rt (.d (.bool (!k)))
theorem t1 {g : DS → Bool → M DV} {σ : St} {H : Hp} {Q : VK} (h : tE E (fun δ => bd (bd (fa δ) tru) (g δ)) σ H Q) {t : VK}
    (k : ∀ O P δ k r H1, RS O P H1 σ δ → Same H H1 → g δ k = some r → Fn E O P H H1 Q r → t (.bl k) H1) : tE E fa σ H t := by
  obtain ⟨O, P, δ, r, rs, e, q⟩ := h
  rcases bd_cases e with ⟨z, e1, e2⟩ | ⟨c, e1, e2⟩
  · rcases bd_cases e1 with ⟨x, e3, e4⟩ | ⟨c, e3, e4⟩
    · refine ⟨O, P, δ, .ok x, rs, e3, fun v H1 s1 rx => ?_⟩
      obtain ⟨kk, rfl, ek⟩ := tru_cases e4
      cases ek
      cases rx
      exact k O P δ _ r H1 (rs.same s1) s1 e2 (q.on s1)
    · cases e4
  · subst e2
    rcases bd_cases e1 with ⟨x, e3, e4⟩ | ⟨c', e3, e4⟩
    · obtain ⟨kk, _, ek⟩ := tru_cases e4
      cases ek
    · cases e4
      exact ⟨O, P, δ, .error c, rs, e3, q⟩
theorem px_one {o : BoolOp} (h : PX X E a fa) : PX X E (.BoolOp o [a] pos) fa := pe_one h
theorem fn_from {O P : List Addr} {H H1 : Hp} {Q : VK} {r : Except Value DV} (s1 : Same H H1) (q : Fn E O P H H1 Q r) : Fn E O P H1 H1 Q r := by
  cases r with
  | ok x => exact fun v H' s' rx => q v H' s' (rx.from s1)
  | error c => exact q
theorem px_and (ha : PX X E a fa) (hb : PX X E (.BoolOp .And (b :: rest) pos) fb) : PX X E (.BoolOp .And (a :: b :: rest) pos) (eAnd fa fb) :=
  PE.mono (pe_and ha hb) fun σ H Q q => t1 (g := fun δ k => if k = true then fb δ else rt (.d (.bool false))) q fun O P δ k r H1 rs1 s1 e q => by
    refine ⟨k, rfl, ?_⟩
    cases k with
    | true => exact iteT ⟨O, P, δ, r, rs1, e, fn_from s1 q⟩
    | false => cases e; exact iteF (q _ H1 (Same.refl H1) (.bool false))
noncomputable def eIf (ga : DS → M Bool) (fa fb : DS → M DV) (δ : DS) : M DV := bd (ga δ) fun k => if k = true then fa δ else fb δ
theorem px_if (hc : PB X E c ga) (ha : PX X E a fa) (hb : PX X E b fb) : PX X E (.IfExp c a b pos) (eIf ga fa fb) :=
  PE.mono (pe_ifExp hc ha hb) fun σ H Q q => tB_bd (g := fun δ k => if k = true then fa δ else fb δ) q fun O P δ k r H1 rs rs1 s1 e q => by
    cases k with
    | true => exact iteT ⟨O, P, δ, r, rs1, e, fn_from s1 q⟩
    | false => exact iteF ⟨O, P, δ, r, rs1, e, fn_from s1 q⟩
noncomputable def eNeg (fa : DS → M DV) (δ : DS) : M DV := bd (fa δ) fun x => match x with
  | .d (.int i) => rt (.d (.int (-i)))
  | _ => none
theorem px_neg (ha : PX X E a fa) : PX X E (.UnaryOp .USub a pos) (eNeg fa) :=
  PE.mono (pe_un un_neg ha) fun σ H Q q => tE_bd (g := fun _ x => match x with | .d (.int i) => rt (.d (.int (-i))) | _ => none) q fun O P δ x r v H1 rs rs1 s1 rx e q => by
    split at e
    · rename_i i
      cases e
      cases rx
      exact ⟨i, rfl, q _ H1 (Same.refl H1) (.int (-i))⟩
    · cases e
end
end L3
set_option Elab.async false
set_option linter.all false
set_option maxRecDepth 100000
set_option maxHeartbeats 4000000
set_option autoImplicit false
namespace L3
open PySem PySem.Spec L2
open PyProof.Rows hiding St
section
variable {X : Cx} {E : XK} {a b c e o : Expr} {es : List Expr} {pos p : Pos} {fa fb fc f : DS → M DV} {fr : DS → M (List DV)}
theorem REs.on {O P : List Addr} {H H1 H2 : Hp} {xs : List DV} {vs : List V} (r : REs O P H H1 xs vs) (h : Same H1 H2) : REs O P H H2 xs vs := Paired.mapP r fun _ _ q => RE.on q h
theorem REs.from {O P : List Addr} {H H1 H2 : Hp} {xs : List DV} {vs : List V} (r : REs O P H1 H2 xs vs) (h : Same H H1) : REs O P H H2 xs vs := Paired.mapP r fun _ _ q => RE.from q h
noncomputable def aNil (_ : DS) : M (List DV) := rt []
noncomputable def aCons (fa : DS → M DV) (fr : DS → M (List DV)) (δ : DS) : M (List DV) := bd (fa δ) fun x => bd (fr δ) fun xs => rt (x :: xs)
theorem px_anil : PAs X E [] aNil := PA.mono pa_nil fun σ H Q q => by
  obtain ⟨O, P, δ, r, rs, e, q⟩ := q
  cases e
  exact q [] H (Same.refl H) .nil
theorem px_acons (ha : PX X E e fa) (hr : PAs X E es fr) (hs : starEach (e :: es) X.env = (false, eval e X.env) :: starEach es X.env := by rfl) : PAs X E (e :: es) (aCons fa fr) := PA.mono (pa_cons ha hr hs) fun σ H Q q => by
  obtain ⟨O, P, δ, r, rs, e, q⟩ := q
  rcases bd_cases e with ⟨x, e1, e2⟩ | ⟨c, e1, e2⟩
  · refine ⟨O, P, δ, .ok x, rs, e1, fun v H1 s1 rx => ?_⟩
    rcases bd_cases e2 with ⟨xs, e3, e4⟩ | ⟨c, e3, e4⟩
    · cases e4
      exact ⟨O, P, δ, .ok xs, rs.same s1, e3, fun vs H2 s2 rxs => q _ H2 (s1.trans s2) (.cons (rx.on s2) (rxs.from s1))⟩
    · subst e4
      exact ⟨O, P, δ, .error c, rs.same s1, e3, fun dx H' s' => q dx H' (s1.trans s')⟩
  · subst e2
    exact ⟨O, P, δ, .error c, rs, e1, q⟩
noncomputable def datas : List DV → Option (List D)
  | [] => some []
  | x :: r => match asD x, datas r with
    | some d, some ds => some (d :: ds)
    | _, _ => none
@[simp] theorem datas_nil : datas [] = some [] := rfl
theorem datas_cons (x : DV) (r : List DV) : datas (x :: r) = match asD x, datas r with | some d, some ds => some (d :: ds) | _, _ => none := rfl
@[simp] theorem datas_d (x : D) (r : List DV) : datas (.d x :: r) = (datas r).map (x :: ·) := by
  rw [datas_cons, asD_d]
  cases datas r <;> rfl
@[simp] theorem datas_new (xs : List D) (r : List DV) : datas (.new xs :: r) = (datas r).map (.list xs :: ·) := by
  rw [datas_cons, asD_new]
  cases datas r <;> rfl
theorem REs.data {O P : List Addr} {H H' : Hp} (dom : ∀ a, a ∈ P ++ O → ∃ o, H a = some o) : ∀ {xs : List DV} {vs : List V} {ds : List D}, REs O P H H' xs vs → datas xs = some ds → RpL (P ++ O) H' ds vs
  | _, _, _, .nil, h => by cases h; exact .nil
  | _, _, _, .cons r t, h => by
    rw [datas_cons] at h
    split at h
    · rename_i d ds h1 h2
      cases h
      exact .cons (r.data dom h1) (REs.data dom t h2)
    · cases h
noncomputable def eTup (fr : DS → M (List DV)) (δ : DS) : M DV := bd (fr δ) fun xs => bd (op (datas xs)) fun ds => if ds.length ≤ 1000000 then rt (.d (.tuple ds)) else none
noncomputable def eLst (fr : DS → M (List DV)) (δ : DS) : M DV := bd (fr δ) fun xs => bd (op (datas xs)) fun ds => if ds.length ≤ 1000000 then rt (.new ds) else none
theorem tA_bd {g : DS → List DV → M DV} {σ : St} {H : Hp} {Q : VK} {t : List V → Hp → Prop} (h : tE E (fun δ => bd (fr δ) (g δ)) σ H Q)
    (k : ∀ O P δ xs r vs H1, RS O P H σ δ → RS O P H1 σ δ → Same H H1 → REs O P H H1 xs vs → g δ xs = some r → Fn E O P H H1 Q r → t vs H1) : tAr E fr σ H t := by
  obtain ⟨O, P, δ, r, rs, e, q⟩ := h
  rcases bd_cases e with ⟨x, e1, e2⟩ | ⟨c, e1, e2⟩
  · exact ⟨O, P, δ, .ok x, rs, e1, fun v H1 s1 re => k O P δ x r v H1 rs (rs.same s1) s1 re e2 (q.on s1)⟩
  · subst e2
    exact ⟨O, P, δ, .error c, rs, e1, q⟩
theorem datas_end {xs : List DV} {h : List D → M DV} {r : Except Value DV} (e : bd (op (datas xs)) h = some r) : ∃ ds, datas xs = some ds ∧ h ds = some r := by
  cases hd : datas xs with
  | none => rw [hd] at e; cases e
  | some ds => rw [hd] at e; exact ⟨ds, rfl, e⟩
theorem px_tup {k : Nat} (h : PAs X E es fr) : PX X E (.Tuple es k pos) (eTup fr) := PE.mono (pe_tup h) fun σ H Q q => tA_bd (g := fun _ xs => bd (op (datas xs)) fun ds => if ds.length ≤ 1000000 then rt (.d (.tuple ds)) else none) q fun O P δ xs r vs H1 rs rs1 s1 rx e q => by
  obtain ⟨ds, hd, e⟩ := datas_end e
  split at e
  · rename_i hz
    cases e
    have l := REs.data rs.dom rx hd
    exact ⟨line_big (by rw [← l.length]; exact hz), fun p hp => q _ _ (same_upd hp) (madeT rs.dom s1 hp l)⟩
  · cases e
theorem px_lst (h : PAs X E es fr) : PX X E (.List es pos) (eLst fr) := PE.mono (pe_lst h) fun σ H Q q => tA_bd (g := fun _ xs => bd (op (datas xs)) fun ds => if ds.length ≤ 1000000 then rt (.new ds) else none) q fun O P δ xs r vs H1 rs rs1 s1 rx e q => by
  obtain ⟨ds, hd, e⟩ := datas_end e
  split at e
  · rename_i hz
    cases e
    have l := REs.data rs.dom rx hd
    exact ⟨line_big (by rw [← l.length]; exact hz), fun p hp => q _ _ (same_upd hp) (RE.made s1 hp l)⟩
  · cases e
noncomputable def gIx (x y : DV) : M DV := match x, y with
  | .d (.tuple xs), .d (.int i) => bd (op (atI xs i)) fun z => rt (.d z)
  | .d (.list xs), .d (.int i) => bd (op (atI xs i)) fun z => rt (.d z)
  | .own xs, .d (.int i) => bd (op (atI xs i)) fun z => rt (.d z)
  | .new xs, .d (.int i) => bd (op (atI xs i)) fun z => rt (.d z)
  | _, _ => none
theorem RpL.atI {Z : List Addr} {H : Hp} {ds : List D} {vs : List V} {i : Int} {d : D} (l : RpL Z H ds vs) (h : L2.atI ds i = some d) : ∃ v, L2.atI vs i = some v ∧ Rp Z H d v := by
  unfold L2.atI at h ⊢
  rw [← l.length]
  cases e : ixN ds.length i with
  | none => rw [e] at h; cases h
  | some j =>
    rw [e] at h
    obtain ⟨v, e1, r⟩ := l.get (i := j) h
    exact ⟨v, e1, r⟩
theorem atI_map {α β : Type} (g : α → β) (xs : List α) (i : Int) : atI (xs.map g) i = (atI xs i).map g := by
  unfold atI
  rw [List.length_map]
  cases ixN xs.length i with
  | none => rfl
  | some j => simp
theorem bd_op {α β : Type} {o : Option α} {g : α → M β} {r : Except Value β} (h : bd (op o) g = some r) : ∃ x, o = some x ∧ g x = some r := by
  cases o with
  | none => cases h
  | some x => exact ⟨x, rfl, h⟩
theorem px_ix (ha : PX X E a fa) (hb : PX X E b fb) (hs : PlainIx b := by intro _ _; rfl) : PX X E (.Subscript a b pos) (e2 gIx fa fb) := PE.mono (pe_ix ix_seq ha hb hs) fun σ H Q q => t2 q fun O P x y r v u H1 dom s1 rx ry e q => by
  unfold gIx at e
  split at e
  · obtain ⟨z, e1, e2⟩ := bd_op e
    cases e2
    cases ry
    have rx' : Rp (P ++ O) H1 _ v := rx
    cases rx' with
    | tup hz ha l =>
      obtain ⟨w, e3, rw3⟩ := l.atI e1
      exact .inr (.inl ⟨_, _, _, w, rfl, rfl, SqT.of ha, e3, q w H1 (Same.refl H1) rw3⟩)
  · obtain ⟨z, e1, e2⟩ := bd_op e
    cases e2
    cases ry
    have rx' : Rp (P ++ O) H1 _ v := rx
    cases rx' with
    | lst hz ha l =>
      obtain ⟨w, e3, rw3⟩ := l.atI e1
      exact .inl ⟨_, _, _, w, rfl, rfl, SqL.of ha, e3, q w H1 (Same.refl H1) rw3⟩
  · obtain ⟨z, e1, e2⟩ := bd_op e
    cases e2
    cases ry
    obtain ⟨a, vs, rfl, hP, ha, l⟩ := rx
    obtain ⟨w, e3, rw3⟩ := l.atI e1
    exact .inl ⟨_, _, _, w, rfl, rfl, SqL.of ha, e3, q w H1 (Same.refl H1) rw3⟩
  · obtain ⟨z, e1, e2⟩ := bd_op e
    cases e2
    cases ry
    obtain ⟨a, vs, rfl, hn, ha, l⟩ := rx
    obtain ⟨w, e3, rw3⟩ := l.atI e1
    exact .inl ⟨_, _, _, w, rfl, rfl, SqL.of ha, e3, q w H1 (Same.refl H1) (rw3.kp (.sub fun b hb => List.mem_cons_of_mem _ hb))⟩
  · cases e
open Classical in
noncomputable def gIxS (K : PySem.W.Frag) (x y : DV) : M DV := match x, y with
  | .scr K' ns, .d (.int i) => if K' = K then bd (op (atI ns i)) fun n => rt (.d (.int n)) else none
  | _, _ => none
theorem RE.scrSq {O P : List Addr} {H₀ H : Hp} {K : PySem.W.Frag} {ns : List Int} {v : V} (r : RE O P H₀ H (.scr K ns) v) : ∃ a, v = .ref a ∧ SqL K H a (ns.map V.int) := by
  obtain ⟨a, ev, hz⟩ := r
  exact ⟨a, ev, hz.imp (fun z => z.2) fun z => z⟩
theorem px_ixS (ha : PX X E a fa) (hb : PX X E b fb) (hs : PlainIx b := by intro _ _; rfl) : PX X E (.Subscript a b pos) (e2 (gIxS X.K) fa fb) := PE.mono (pe_ix ix_seq ha hb hs) fun σ H Q q => t2 q fun O P x y r v u H1 dom s1 rx ry e q => by
  unfold gIxS at e
  split at e
  · split at e
    · rename_i hK
      subst hK
      obtain ⟨z, e1, e2⟩ := bd_op e
      cases e2
      cases ry
      obtain ⟨a, rfl, ha⟩ := rx.scrSq
      exact .inl ⟨_, _, _, .int z, rfl, rfl, ha, by rw [atI_map, e1]; rfl, q _ H1 (Same.refl H1) (.int z)⟩
    · cases e
  · cases e
noncomputable def asI : DV → M Int
  | .d (.int i) => rt i
  | _ => none
@[simp] theorem asI_d (i : Int) : asI (.d (.int i)) = rt i := rfl
noncomputable def gFld (C : Addr) (n : Str) (x : DV) : M DV := match x with
  | .ob C' fs => if C' = C then bd (op (fs.lookup n)) fun d => rt (.d d) else none
  | _ => none
noncomputable def eFld (C : Addr) (n : Str) (fa : DS → M DV) (δ : DS) : M DV := bd (fa δ) (gFld C n)
theorem FsR.look {Z : List Addr} {H : Hp} {n : Str} {d : D} : ∀ {fs : List (Str × D)} {gs : List (Str × V)}, FsR Z H fs gs → fs.lookup n = some d → ∃ v, gs.lookup n = some v ∧ Rp Z H d v
  | _, _, .nil, h => by simp at h
  | (k, x) :: fs, (k', y) :: gs, .cons ⟨ek, r⟩ t, h => by
    have ek' : k = k' := ek
    subst ek'
    by_cases hn : n = k
    · subst hn
      simp only [List.lookup_cons, beq_self_eq_true] at h ⊢
      cases h
      exact ⟨_, rfl, r⟩
    · have hb : (n == k) = false := by simpa using hn
      simp only [List.lookup_cons, hb] at h ⊢
      exact FsR.look t h
theorem px_fld {C : Addr} {n : Str} (ha : PX X E a fa) (hc : Cls X.K C) (hn : NoAttr X.K C n) (hb : attributeBase a n X.env (eval a X.env) = eval a X.env := by rfl) : PX X E (.Attribute a n pos) (eFld C n fa) := PE.mono (pe_fld ha hb) fun σ H Q q =>
  tE_bd (g := fun _ => gFld C n) q fun O P δ x r v H1 rs rs1 s1 rx e q => by
    unfold gFld at e
    split at e
    · split at e
      · rename_i hC
        subst hC
        obtain ⟨d, e1, e2⟩ := bd_op e
        cases e2
        obtain ⟨a, dx, gs, rfl, hz, ha, hf⟩ := rx
        obtain ⟨w, e3, rw3⟩ := FsR.look hf e1
        exact ⟨a, _, dx, gs, w, rfl, ha, hc, hn, e3, q w H1 (Same.refl H1) rw3⟩
      · cases e
    · cases e
noncomputable def CallV (X : Cx) (E : XK) (f : Value) (g : List DV → M DV) : Prop :=
  ∀ (pins : List (Addr × Obj)) (s : Shared) (σ : St) (O P : List Addr) (H₀ H : Hp) (xs : List DV) (vs : List V) (us : List Value) (r : Except Value DV) (Q : VK), Inv X pins σ H s → (∀ a, a ∈ P ++ O → ∃ o, H₀ a = some o) → Same H₀ H →
    REs O P H₀ H xs vs → Vals vs us → g xs = some r → Fn E O P H₀ H Q r → wpAny (model X.prog X.w) X.A (call f us) (EP X pins σ Q) X.xe s
noncomputable def rCallV (E : XK) (g : List DV → M DV) (vs : List V) (H : Hp) (Q : VK) : Prop := ∃ O P H₀ xs r, (∀ a, a ∈ P ++ O → ∃ o, H₀ a = some o) ∧ Same H₀ H ∧ REs O P H₀ H xs vs ∧ g xs = some r ∧ Fn E O P H₀ H Q r
theorem CallV.rule {f : Value} {g : List DV → M DV} (h : CallV X E f g) : CallR X f (rCallV E g) := fun pins s σ H vs us Q I rv ⟨O, P, H₀, xs, r, h1, h2, h3, h4, h5⟩ => h pins s σ O P H₀ H xs vs us r Q I h1 h2 h3 rv h4 h5
theorem CallV.of {f : Value} {g : List DV → M DV} {R : List V → Hp → VK → Prop} (hc : CallR X f R)
    (h : ∀ (O P : List Addr) (H₀ H : Hp) (xs : List DV) (vs : List V) (r : Except Value DV) (Q : VK), (∀ a, a ∈ P ++ O → ∃ o, H₀ a = some o) → Same H₀ H → REs O P H₀ H xs vs → g xs = some r → Fn E O P H₀ H Q r → R vs H Q) : CallV X E f g :=
  fun pins s σ O P H₀ H xs vs us r Q I h1 h2 h3 rv h4 h5 => hc pins s σ H vs us Q I rv (h O P H₀ H xs vs r Q h1 h2 h3 h4 h5)
noncomputable def eCb (g : List DV → M DV) (fr : DS → M (List DV)) (δ : DS) : M DV := bd (fr δ) g
theorem cb_end {g : List DV → M DV} {σ : St} {H : Hp} {Q : VK} (q : tE E (eCb g fr) σ H Q) : tAr E fr σ H fun vs H1 => rCallV E g vs H1 Q :=
  tA_bd (g := fun _ => g) q fun O P δ xs r vs H1 rs rs1 s1 rx e q => ⟨O, P, H, xs, r, rs.dom, s1, rx, e, q⟩
theorem px_callB {x : Str} {id : String} {g : List DV → M DV} (hc : CallV X E (.builtin id) g) (hg : Gl X x) (hm : X.mg x = none) (hv : bootBuiltins x = some (.builtin id)) (ha : PAs X E (e :: es) fr) (hn : x ≠ "__name__" := by decide) (hdb : (x == ("__debug__" : Str)) = false := by decide)
    (he : starEach (e :: es) X.env = (false, eval e X.env) :: starEach es X.env := by rfl) (hpl : (backTo pos (starEach es X.env)).any (·.1) = false := by rfl) : PX X E (.Call (.Name x p) (e :: es) [] pos) (eCb g fr) :=
  PE.mono (pe_callB hc.rule hg hm hv ha hn hdb he hpl) fun σ H Q q => cb_end q
theorem px_callTy {x : Str} {T : String} {g : List DV → M DV} (hc : CallV X E (.type T) g) (hg : Gl X x) (hm : X.mg x = none) (hv : bootBuiltins x = some (.type T)) (ha : PAs X E (e :: es) fr) (hn : x ≠ "__name__" := by decide) (hdb : (x == ("__debug__" : Str)) = false := by decide)
    (he : starEach (e :: es) X.env = (false, eval e X.env) :: starEach es X.env := by rfl) (hpl : (backTo pos (starEach es X.env)).any (·.1) = false := by rfl) : PX X E (.Call (.Name x p) (e :: es) [] pos) (eCb g fr) :=
  PE.mono (pe_callTy hc.rule hg hm hv ha hn hdb he hpl) fun σ H Q q => cb_end q
end
end L3
set_option Elab.async false
set_option linter.all false
set_option maxRecDepth 100000
set_option maxHeartbeats 4000000
set_option autoImplicit false
namespace L3
open PySem PySem.Spec L2
open PyProof.Rows hiding St
noncomputable def Sub (δ δ' : DS) : Prop := δ.length = δ'.length ∧ ∀ (i : Nat) (x : DV), δ[i]? = some (some x) → δ'[i]? = some (some x)
theorem Sub.refl (δ : DS) : Sub δ δ := ⟨rfl, fun _ _ h => h⟩
theorem Sub.trans {δ δ1 δ2 : DS} (a : Sub δ δ1) (b : Sub δ1 δ2) : Sub δ δ2 := ⟨a.1.trans b.1, fun i x h => b.2 i x (a.2 i x h)⟩
theorem sub_set {δ : DS} {i : Nat} {y : Option DV} (h : δ[i]? = some none ∨ δ[i]? = none) : Sub δ (δ.set i y) := ⟨by simp, fun j x e => by
  by_cases hj : i = j
  · subst hj
    rcases h with h | h <;> (rw [h] at e; cases e)
  · rw [List.getElem?_set_ne hj]; exact e⟩
section
variable {O P : List Addr} {H : Hp} {σ : St} {δ δ' : DS}
theorem RS.forget (r : RS O P H σ δ') (h : Sub δ δ') : RS O P H σ δ :=
  ⟨r.len.trans h.1.symm, r.dom, r.apart, fun i x e => r.at' i x (h.2 i x e), fun i j xs ys v e1 e2 => r.one i j xs ys v (h.2 i _ e1) (h.2 j _ e2)⟩
theorem RS.set (r : RS O P H σ δ) {i : Nat} {x : DV} {v : V} (rx : RE O P H H x v) (h1 : ∀ xs, x ≠ .new xs) (h2 : ∀ xs, x ≠ .own xs) : RS O P H (σ.set i (some v)) (δ.set i (some x)) := by
  refine ⟨by simp [r.len], r.dom, r.apart, fun j y e => ?_, fun j k xs ys w e1 e2 e3 e4 => ?_⟩
  · by_cases hj : i = j
    · subst hj
      by_cases hi : i < δ.length
      · rw [List.getElem?_set_self hi] at e
        cases e
        exact ⟨v, by rw [List.getElem?_set_self (by rw [r.len]; exact hi)], h1, rx⟩
      · rw [List.getElem?_eq_none (by simpa using hi)] at e; cases e
    · rw [List.getElem?_set_ne hj] at e
      obtain ⟨w, e1, e2, e3⟩ := r.at' j y e
      exact ⟨w, by rw [List.getElem?_set_ne hj]; exact e1, e2, e3⟩
  · have nj : ∀ (j : Nat) (xs : List D), (δ.set i (some x))[j]? = some (some (.own xs)) → i ≠ j ∧ δ[j]? = some (some (.own xs)) := fun j xs e => by
      by_cases hj : i = j
      · subst hj
        by_cases hi : i < δ.length
        · rw [List.getElem?_set_self hi] at e
          cases e
          exact absurd rfl (h2 xs)
        · rw [List.getElem?_eq_none (by simpa using hi)] at e; cases e
      · exact ⟨hj, by rw [List.getElem?_set_ne hj] at e; exact e⟩
    obtain ⟨n1, d1⟩ := nj j xs e1
    obtain ⟨n2, d2⟩ := nj k ys e2
    rw [List.getElem?_set_ne n1] at e3
    rw [List.getElem?_set_ne n2] at e4
    exact r.one j k xs ys w d1 d2 e3 e4
theorem RS.own {H0 : Hp} (r : RS O P H0 σ δ) (hs : Same H0 H) {i : Nat} {xs : List D} {v : V} (rx : RE O P H0 H (.new xs) v) : ∃ a, H0 a = none ∧ RS O (a :: P) H (σ.set i (some v)) (δ.set i (some (.own xs))) := by
  obtain ⟨a, vs, rfl, hn, ha, l⟩ := rx
  have fz : a ∉ P ++ O := fun h => by
    obtain ⟨o, e⟩ := r.dom a h
    rw [hn] at e; cases e
  have k : Kp (P ++ O) H0 (a :: P ++ O) H := ⟨fun b o _ e => hs b o e, fun b hb => by
    rcases List.mem_cons.mp hb with e | e
    · exact .inr (e ▸ hn)
    · exact .inl e⟩
  refine ⟨a, hn, by simp [r.len], fun b hb => ?_, fun b hb hO => ?_, fun j y e => ?_, fun j m ys zs w e1 e2 e3 e4 => ?_⟩
  · rcases List.mem_cons.mp hb with e | e
    · exact ⟨_, e ▸ ha⟩
    · obtain ⟨o, q⟩ := r.dom b e
      exact ⟨o, hs b o q⟩
  · rcases List.mem_cons.mp hb with e | e
    · exact fz (List.mem_append_right _ (e ▸ hO))
    · exact r.apart b e hO
  · by_cases hj : i = j
    · subst hj
      by_cases hi : i < δ.length
      · rw [List.getElem?_set_self hi] at e
        cases e
        exact ⟨.ref a, by rw [List.getElem?_set_self (by rw [r.len]; exact hi)], fun _ => nofun, a, vs, rfl, List.mem_cons_self, ha, l⟩
      · rw [List.getElem?_eq_none (by simpa using hi)] at e; cases e
    · rw [List.getElem?_set_ne hj] at e
      obtain ⟨w, e1, e2, e3⟩ := r.at' j y e
      refine ⟨w, by rw [List.getElem?_set_ne hj]; exact e1, e2, ?_⟩
      cases y with
      | d y => exact Rp.kp k e3
      | ob C fs => exact ObR.kp k e3
      | tbl kvs => exact TbR.kp k e3
      | ex q => exact e3
      | own ys =>
        obtain ⟨b, us, eb, hP, hb, hl⟩ := e3
        exact ⟨b, us, eb, List.mem_cons_of_mem _ hP, hs b _ hb, hl.kp k⟩
      | new ys => exact absurd rfl (e2 ys)
      | scr K ns =>
        obtain ⟨b, eb, ⟨hz, hb⟩ | hk⟩ := e3
        · refine ⟨b, eb, .inl ⟨fun h => ?_, Same.rd hs hb⟩⟩
          rcases List.mem_cons.mp h with z | z
          · rcases hb with hb | ⟨ob, hb⟩ <;> (rw [z, hn] at hb; cases hb)
          · exact hz z
        · exact ⟨b, eb, .inr hk⟩
  ·
    have nold : ∀ (j : Nat) (ys : List D), δ[j]? = some (some (.own ys)) → σ[j]? ≠ some (some (.ref a)) := fun j ys e q => by
      obtain ⟨w, e1, _, b, us, eb, hP, _⟩ := r.at' j _ e
      rw [q] at e1
      cases e1
      cases eb
      exact fz (List.mem_append_left _ hP)
    by_cases hj : i = j
    · by_cases hm : i = m
      · exact hj.symm.trans hm
      · subst hj
        by_cases hi : i < δ.length
        · rw [List.getElem?_set_self (by rw [r.len]; exact hi)] at e3
          cases e3
          rw [List.getElem?_set_ne hm] at e2 e4
          exact absurd e4 (nold m zs e2)
        · rw [List.getElem?_eq_none (by simpa using hi)] at e1; cases e1
    · by_cases hm : i = m
      · subst hm
        by_cases hi : i < δ.length
        · rw [List.getElem?_set_self (by rw [r.len]; exact hi)] at e4
          cases e4
          rw [List.getElem?_set_ne hj] at e1 e3
          exact absurd e3 (nold j ys e1)
        · rw [List.getElem?_eq_none (by simpa using hi)] at e2; cases e2
      · rw [List.getElem?_set_ne hj] at e1 e3
        rw [List.getElem?_set_ne hm] at e2 e4
        exact r.one j m ys zs w e1 e2 e3 e4
end
noncomputable def TgV (g : TG) (sf : D → DS → Option DS) : Prop := ∀ (O P : List Addr) (H : Hp) (σ : St) (δ δ' : DS) (d : D) (v : V) (Q : St → Hp → Prop), RS O P H σ δ → Rp (P ++ O) H d v → sf d δ = some δ' → (∀ σ', RS O P H σ' δ' → Q σ' H) → g v σ H Q
noncomputable def sName (i : Nat) (d : D) (δ : DS) : Option DS := some (δ.set i (some (.d d)))
theorem tg_name (i : Nat) : TgV (gName i) (sName i) := fun O P H σ δ δ' d v Q r rd e h => by
  cases e
  exact h _ (r.set (x := .d d) rd (fun _ => nofun) fun _ => nofun)
noncomputable def sNil (ds : List D) (δ : DS) : Option DS := match ds with
  | [] => some δ
  | _ => none
noncomputable def sCons (sf : D → DS → Option DS) (st : List D → DS → Option DS) (ds : List D) (δ : DS) : Option DS := match ds with
  | [] => none
  | d :: r => match sf d δ with
    | some δ' => st r δ'
    | none => none
noncomputable def sTup (n : Nat) (st : List D → DS → Option DS) (d : D) (δ : DS) : Option DS := match d with
  | .tuple ds => if ds.length = n then st ds δ else none
  | _ => none
noncomputable def TgVs (g : TGs) (sf : List D → DS → Option DS) : Prop := ∀ (O P : List Addr) (H : Hp) (σ : St) (δ δ' : DS) (ds : List D) (vs : List V) (Q : St → Hp → Prop), RS O P H σ δ → RpL (P ++ O) H ds vs → sf ds δ = some δ' → (∀ σ', RS O P H σ' δ' → Q σ' H) → g vs σ H Q
theorem tg_nil : TgVs gNil sNil := fun O P H σ δ δ' ds vs Q r rd e h => by
  cases rd with
  | nil => cases e; exact ⟨rfl, h σ r⟩
  | cons _ _ => cases e
theorem tg_cons {g : TG} {sf : D → DS → Option DS} {gs : TGs} {st : List D → DS → Option DS} (h1 : TgV g sf) (h2 : TgVs gs st) : TgVs (gCons g gs) (sCons sf st) := fun O P H σ δ δ' ds vs Q r rd e h => by
  cases rd with
  | nil => cases e
  | cons r1 rr =>
    unfold sCons at e
    simp only at e
    split at e
    · rename_i δ1 e1
      exact ⟨_, _, rfl, h1 O P H σ δ δ1 _ _ _ r r1 e1 fun σ1 rs1 => h2 O P H σ1 δ1 δ' _ _ Q rs1 rr e h⟩
    · cases e
theorem tg_tup {K : PySem.W.Frag} {n : Nat} {gs : TGs} {st : List D → DS → Option DS} (h : TgVs gs st) : TgV (gTup K n gs) (sTup n st) := fun O P H σ δ δ' d v Q r rd e hq => by
  unfold sTup at e
  split at e
  · split at e
    · rename_i hn
      cases rd with
      | tup hz ha l => exact ⟨_, _, rfl, SqT.of ha, by rw [← l.length]; exact hn, h O P H σ δ δ' _ _ Q r l e hq⟩
    · cases e
  · cases e
noncomputable def sp0 (n : Nat) (fm : List DV → M DV) : Sp := fun vs H Q _ => vs.length = n ∧ ∃ O xs x, (∀ a, a ∈ O → ∃ o, H a = some o) ∧ REs O [] H H xs vs ∧ fm xs = some (.ok x) ∧ ∀ v H', Same H H' → RE O [] H H' x v → Q v H'
noncomputable def args : List DV → Option (List DV)
  | [] => some []
  | x :: r => match asA x, args r with
    | some y, some ys => some (y :: ys)
    | _, _ => none
@[simp] theorem args_nil : args [] = some [] := rfl
theorem args_cons (x : DV) (r : List DV) : args (x :: r) = match asA x, args r with | some y, some ys => some (y :: ys) | _, _ => none := rfl
@[simp] theorem args_d (x : D) (r : List DV) : args (.d x :: r) = (args r).map (.d x :: ·) := by
  rw [args_cons, asA_d]; cases args r <;> rfl
@[simp] theorem args_ob (C : Addr) (fs : List (Str × D)) (r : List DV) : args (.ob C fs :: r) = (args r).map (.ob C fs :: ·) := by
  rw [args_cons, asA_ob]; cases args r <;> rfl
@[simp] theorem args_new (xs : List D) (r : List DV) : args (.new xs :: r) = (args r).map (.d (.list xs) :: ·) := by
  rw [args_cons, asA_new]; cases args r <;> rfl
@[simp] theorem args_scr (K : PySem.W.Frag) (ns : List Int) (r : List DV) : args (.scr K ns :: r) = (args r).map (.scr K ns :: ·) := by
  rw [args_cons, asA_scr]; cases args r <;> rfl
theorem RE.hand {O P : List Addr} {H₀ H : Hp} {x y : DV} {v : V} (dom : ∀ a, a ∈ P ++ O → ∃ o, H₀ a = some o) (hs : Same H₀ H) (r : RE O P H₀ H x v) (h : asA x = some y) : RE (P ++ O) [] H H y v := by
  cases x with
  | d z => cases h; exact r
  | ob C fs => cases h; exact r
  | tbl kvs => cases h; exact r
  | ex q => cases h; exact r
  | own xs => cases h
  | new xs => cases h; exact new_data dom r
  | scr K ns => cases h; exact r
theorem REs.hand {O P : List Addr} {H₀ H : Hp} (dom : ∀ a, a ∈ P ++ O → ∃ o, H₀ a = some o) (hs : Same H₀ H) : ∀ {xs ys : List DV} {vs : List V}, REs O P H₀ H xs vs → args xs = some ys → REs (P ++ O) [] H H ys vs
  | _, _, _, .nil, h => by cases h; exact .nil
  | _, _, _, .cons r t, h => by
    rw [args_cons] at h
    split at h
    · rename_i y ys h1 h2
      cases h
      exact .cons (r.hand dom hs h1) (REs.hand dom hs t h2)
    · cases h
theorem RE.back {O P : List Addr} {H₀ H H' : Hp} {x : DV} {v : V} (hs : Same H₀ H) (r : RE (P ++ O) [] H H' x v) : RE O P H₀ H' x v := by
  cases x with
  | d z => exact r
  | ob C fs => exact r
  | tbl kvs => exact r
  | ex q => exact r
  | own xs =>
    obtain ⟨a, vs, e, hP, _⟩ := r
    cases hP
  | new xs =>
    obtain ⟨a, vs, e, hn, ha, l⟩ := r
    exact ⟨a, vs, e, hs.free hn, ha, l⟩
  | scr K ns => exact r
noncomputable def okO {α : Type} (m : M α) : M α := match m with
  | some (.ok x) => some (.ok x)
  | _ => none
@[simp] theorem okO_ok {α : Type} (x : α) : okO (some (.ok x) : M α) = some (.ok x) := rfl
@[simp] theorem okO_rt {α : Type} (x : α) : okO (rt x) = rt x := rfl
noncomputable def gCall (n : Nat) (fm : List DV → M DV) (xs : List DV) : M DV := bd (op (args xs)) fun ys => if ys.length = n then okO (fm ys) else none
section
variable {X : Cx} {E : XK} {a b c e o : Expr} {es : List Expr} {pos p : Pos} {fa fb fc f : DS → M DV} {fr : DS → M (List DV)}
theorem px_call {k : Nat} {fn : Addr} {fd : FuncData} {ps : List Str} {x : Str} {n : Nat} {fm : List DV → M DV} (F : FnOk X.prog X.w X.K X.mg X.base CX0 k fn fd ps (sp0 n fm)) (hr : Room k X.A) (hm : X.mg x = some (.ref fn)) (hk : PySem.W.keepIn X.K (.ref fn) = true) (hb : Binds X.K fd ps [])
    (ha : PAs X E (e :: es) fr) (hg : Gl X x := by rfl) (hdb : (x == ("__debug__" : Str)) = false := by decide) (he : starEach (e :: es) X.env = (false, eval e X.env) :: starEach es X.env := by rfl) (hpl : (backTo pos (starEach es X.env)).any (·.1) = false := by rfl) :
    PX X E (.Call (.Name x p) (e :: es) [] pos) (eCb (gCall n fm) fr) :=
  PE.mono (pe_call (E := E0) F hr hg hm hk hb .nil (fun _ _ _ _ _ _ _ h => h.elim) ha hdb he hpl) fun σ H Q q => tA_bd (g := fun _ => gCall n fm) q fun O P δ xs r vs H1 rs rs1 s1 rx e q => by
    obtain ⟨ys, h1, h2⟩ := bd_op e
    split at h2
    · rename_i hl
      cases hf : fm ys with
      | none => rw [hf] at h2; cases h2
      | some z =>
        rw [hf] at h2
        cases z with
        | error c => cases h2
        | ok x =>
          cases h2
          have ry := REs.hand rs.dom s1 rx h1
          refine ⟨?_, P ++ O, ys, x, fun a ha => ?_, ?_, hf, fun v H' s2 rv => q v H' s2 (rv.back s1)⟩
          · rw [List.append_nil, ← Paired.length ry]; exact hl
          · obtain ⟨o, e'⟩ := rs.dom a ha
            exact ⟨o, s1 a o e'⟩
          · rw [List.append_nil]; exact ry
    · cases h2
noncomputable def gLen (xs : List DV) : M DV := match xs with
  | [x] => match asQ x with
    | some (.list ys) => rt (.d (.int ys.length))
    | some (.tuple ys) => rt (.d (.int ys.length))
    | _ => none
  | _ => none
theorem RE.look {O P : List Addr} {H₀ H : Hp} {x : DV} {v : V} {ys : List D} (r : RE O P H₀ H x v) : (asQ x = some (.list ys) → ∃ a vs, v = .ref a ∧ H a = some (.lst vs) ∧ RpL (P ++ O) H ys vs) ∧ (asQ x = some (.tuple ys) → ∃ a vs, v = .ref a ∧ H a = some (.tup vs) ∧ RpL (P ++ O) H ys vs) := by
  refine ⟨fun h => ?_, fun h => ?_⟩
  · refine r.list ?_
    cases x with
    | d z => cases h; rfl
    | ob C fs => cases h
    | tbl kvs => cases h
    | ex q => cases h
    | own xs => cases h; rfl
    | new xs => cases h; rfl
    | scr K ns => cases h
  · cases x with
    | d z =>
      cases h
      have r' : Rp (P ++ O) H _ v := r
      cases r' with
      | tup hz ha l => exact ⟨_, _, rfl, ha, l⟩
    | ob C fs => cases h
    | tbl kvs => cases h
    | ex q => cases h
    | own xs => cases h
    | new xs => cases h
    | scr K ns => cases h
theorem cv_len : CallV X E (.builtin "len") gLen := CallV.of call_len_seq fun O P H₀ H xs vs r Q hd hs rx e q => by
  unfold gLen at e
  split at e
  · cases rx with
    | cons r1 rr =>
      cases rr
      split at e
      · rename_i h
        cases e
        obtain ⟨a, vs, rfl, ha, l⟩ := r1.look.1 h
        exact ⟨a, vs, rfl, .inl (SqL.of ha), q _ H (Same.refl H) (by rw [l.length]; exact .int _)⟩
      · rename_i h
        cases e
        obtain ⟨a, vs, rfl, ha, l⟩ := r1.look.2 h
        exact ⟨a, vs, rfl, .inr (SqT.of ha), q _ H (Same.refl H) (by rw [l.length]; exact .int _)⟩
      · cases e
  · cases e
open Classical in
noncomputable def gLenS (K : PySem.W.Frag) (xs : List DV) : M DV := match xs with
  | [.scr K' ns] => if K' = K then rt (.d (.int ns.length)) else none
  | _ => none
theorem cv_lenS : CallV X E (.builtin "len") (gLenS X.K) := CallV.of call_len_seq fun O P H₀ H xs vs r Q hd hs rx e q => by
  unfold gLenS at e
  split at e
  · split at e
    · rename_i hK
      subst hK
      cases e
      cases rx with
      | cons r1 rr =>
        cases rr
        obtain ⟨a, rfl, ha⟩ := r1.scrSq
        refine ⟨a, _, rfl, .inl ha, ?_⟩
        rw [List.length_map]
        exact q _ H (Same.refl H) (.int _)
    · cases e
  · cases e
noncomputable def gList (xs : List DV) : M DV := match xs with
  | [x] => match asQ x with
    | some (.list ys) => rt (.new ys)
    | some (.tuple ys) => rt (.new ys)
    | _ => none
  | _ => none
theorem cv_list : CallV X E (.type "list") gList := CallV.of call_list_of fun O P H₀ H xs vs r Q hd hs rx e q => by
  unfold gList at e
  split at e
  · cases rx with
    | cons r1 rr =>
      cases rr
      split at e
      · rename_i h
        cases e
        obtain ⟨a, vs, rfl, ha, l⟩ := r1.look.1 h
        exact ⟨a, vs, rfl, .inl (SqL.of ha), fun p hp => q _ _ (same_upd hp) (RE.made hs hp l)⟩
      · rename_i h
        cases e
        obtain ⟨a, vs, rfl, ha, l⟩ := r1.look.2 h
        exact ⟨a, vs, rfl, .inr (SqT.of ha), fun p hp => q _ _ (same_upd hp) (RE.made hs hp l)⟩
      · cases e
  · cases e
noncomputable def gMin (xs : List DV) : M DV := match xs with
  | [.d (.int i), .d (.int j)] => rt (.d (.int (if j < i then j else i)))
  | _ => none
end
end L3
set_option Elab.async false
set_option linter.all false
set_option maxRecDepth 100000
set_option maxHeartbeats 4000000
set_option autoImplicit false
namespace L3
open PySem PySem.Spec L2
open PyProof.Rows hiding St
inductive Out where
  | nx (δ : DS)
  | rt (x : DV)
  | bk (δ : DS)
  | ct (δ : DS)
noncomputable def FnS (E : XK) (O P : List Addr) (H : Hp) (T : Ends) : Except Value Out → Prop
  | .ok (.nx δ) => ∀ σ' H' P', Kp P H P' H' → RS O P' H' σ' δ → T.nx σ' H'
  | .ok (.bk δ) => ∀ σ' H' P', Kp P H P' H' → RS O P' H' σ' δ → T.bk σ' H'
  | .ok (.ct δ) => ∀ σ' H' P', Kp P H P' H' → RS O P' H' σ' δ → T.ct σ' H'
  | .ok (.rt x) => ∀ v H1 H' P', Kp P H P' H1 → Same H1 H' → (∀ a, a ∈ P' ++ O → ∃ o, H1 a = some o) → (∀ a, a ∈ P' → a ∉ O) → RE O P' H1 H' x v → T.rt v H'
  | .error c => ∀ dx H' P', Kp P H P' H' → E c dx H'
theorem FnS.on {E : XK} {O P P1 : List Addr} {H H1 : Hp} {T : Ends} {r : Except Value Out} (h : FnS E O P H T r) (k : Kp P H P1 H1) : FnS E O P1 H1 T r := by
  cases r with
  | error c => exact fun dx H' P' k' => h dx H' P' (k.trans k')
  | ok o =>
    cases o with
    | nx δ => exact fun σ' H' P' k' rs => h σ' H' P' (k.trans k') rs
    | bk δ => exact fun σ' H' P' k' rs => h σ' H' P' (k.trans k') rs
    | ct δ => exact fun σ' H' P' k' rs => h σ' H' P' (k.trans k') rs
    | rt x => exact fun v H2 H' P' k' s d ap rx => h v H2 H' P' (k.trans k') s d ap rx
noncomputable def tS (E : XK) (F : DS → M Out) : TS := fun T σ H => ∃ O P δ r, RS O P H σ δ ∧ F δ = some r ∧ FnS E O P H T r
noncomputable def PSt (X : Cx) (E : XK) (st : Stmt) (F : DS → M Out) : Prop := PS X st (tS E F)
noncomputable def PSd (X : Cx) (E : XK) (st : List Stmt) (F : DS → M Out) : Prop := PSs X st (tS E F)
theorem PS.mono {X : Cx} {st : Stmt} {t t' : TS} (h : PS X st t) (m : ∀ T σ H, t' T σ H → t T σ H) : PS X st t' := fun pins s σ H T I q => h pins s σ H T I (m T σ H q)
theorem PSs.mono {X : Cx} {st : List Stmt} {t t' : TS} (h : PSs X st t) (m : ∀ T σ H, t' T σ H → t T σ H) : PSs X st t' := fun pins s σ H T I q => h pins s σ H T I (m T σ H q)
noncomputable def sqo (F : DS → M Out) (o : Out) : M Out := match o with
  | .nx δ => F δ
  | .rt x => rt (.rt x)
  | .bk δ => rt (.bk δ)
  | .ct δ => rt (.ct δ)
@[simp] theorem sqo_nx (F : DS → M Out) (δ : DS) : sqo F (.nx δ) = F δ := rfl
@[simp] theorem sqo_rt (F : DS → M Out) (x : DV) : sqo F (.rt x) = rt (.rt x) := rfl
@[simp] theorem sqo_bk (F : DS → M Out) (δ : DS) : sqo F (.bk δ) = rt (.bk δ) := rfl
@[simp] theorem sqo_ct (F : DS → M Out) (δ : DS) : sqo F (.ct δ) = rt (.ct δ) := rfl
noncomputable def fSq (F G : DS → M Out) (δ : DS) : M Out := bd (F δ) (sqo G)
noncomputable def fNil (δ : DS) : M Out := rt (.nx δ)
section
variable {X : Cx} {E : XK} {st : Stmt} {sts : List Stmt} {F G : DS → M Out} {e c : Expr} {pos : Pos} {f : DS → M DV} {fr : DS → M (List DV)} {gc : DS → M Bool}
theorem ds_nil : PSd X E [] fNil := PSs.mono pss_nil fun T σ H q => by
  obtain ⟨O, P, δ, r, rs, e, q⟩ := q
  cases e
  exact q σ H P (.refl) rs
theorem ds_cons (h1 : PSt X E st F) (h2 : PSd X E sts G) : PSd X E (st :: sts) (fSq F G) := PSs.mono (pss_cons h1 h2) fun T σ H q => by
  obtain ⟨O, P, δ, r, rs, e, q⟩ := q
  rcases bd_cases e with ⟨o, e1, e2⟩ | ⟨c, e1, e2⟩
  · cases o with
    | nx δ1 => exact ⟨O, P, δ, .ok (.nx δ1), rs, e1, fun σ' H' P' k rs' => ⟨O, P', δ1, r, rs', e2, q.on k⟩⟩
    | rt x => cases e2; exact ⟨O, P, δ, .ok (.rt x), rs, e1, q⟩
    | bk δ1 => cases e2; exact ⟨O, P, δ, .ok (.bk δ1), rs, e1, q⟩
    | ct δ1 => cases e2; exact ⟨O, P, δ, .ok (.ct δ1), rs, e1, q⟩
  · subst e2
    exact ⟨O, P, δ, .error c, rs, e1, q⟩
theorem ds_one (h1 : PSt X E st F) : PSd X E [st] F := pss_one h1
noncomputable def frz (i : Nat) (δ : DS) : DS := match δ[i]? with
  | some (some (.own xs)) => δ.set i (some (.d (.list xs)))
  | _ => δ
theorem RS.frz {O P : List Addr} {H : Hp} {σ : St} {δ : DS} (r : RS O P H σ δ) (i : Nat) : ∃ P', (∀ a, a ∈ P' → a ∈ P) ∧ RS O P' H σ (frz i δ) := by
  unfold L3.frz
  split
  · rename_i xs e
    obtain ⟨v, ev, _, a, vs, rfl, hP, ha, l⟩ := r.at' i _ e
    have hi : i < δ.length := (List.getElem?_eq_some_iff.mp e).1
    have sub : ∀ b, b ∈ P.filter (fun b => !decide (b = a)) → b ∈ P := fun b hb => (List.mem_filter.mp hb).1
    have nota : a ∉ P.filter (fun b => !decide (b = a)) := fun h => by have := (List.mem_filter.mp h).2; simp at this
    have subz : ∀ b, b ∈ P.filter (fun b => !decide (b = a)) ++ O → b ∈ P ++ O := fun b hb => by
      rcases List.mem_append.mp hb with h | h
      · exact List.mem_append_left _ (sub b h)
      · exact List.mem_append_right _ h
    refine ⟨P.filter (fun b => !decide (b = a)), sub, by simp [r.len], fun b hb => r.dom b (subz b hb), fun b hb => r.apart b (sub b hb), fun j y ej => ?_, fun j m ys zs w e1 e2 e3 e4 => ?_⟩
    · by_cases hj : i = j
      · subst hj
        rw [List.getElem?_set_self hi] at ej
        cases ej
        refine ⟨.ref a, ev, fun _ => nofun, Rp.lst (fun h => ?_) ha (l.kp (.sub subz))⟩
        rcases List.mem_append.mp h with h | h
        · exact nota h
        · exact r.apart a hP h
      · rw [List.getElem?_set_ne hj] at ej
        obtain ⟨w, e1, e2, e3⟩ := r.at' j y ej
        refine ⟨w, e1, e2, ?_⟩
        cases y with
        | d y => exact Rp.kp (.sub subz) e3
        | ob C fs => exact ObR.kp (.sub subz) e3
        | tbl kvs => exact TbR.kp (.sub subz) e3
        | ex q => exact e3
        | own ys =>
          obtain ⟨b, us, eb, hPb, hb, hl⟩ := e3
          refine ⟨b, us, eb, List.mem_filter.mpr ⟨hPb, ?_⟩, hb, hl.kp (.sub subz)⟩
          have : b ≠ a := fun z => hj (r.one i j xs ys (.ref a) e ej ev (by rw [e1, eb, z]))
          simpa using this
        | new ys => exact absurd rfl (e2 ys)
        | scr K ns =>
          obtain ⟨b, eb, hz⟩ := e3
          exact ⟨b, eb, hz.imp (fun z => ⟨fun h => z.1 (subz b h), z.2⟩) fun z => z⟩
    · have nj : ∀ (j : Nat) (ys : List D), (δ.set i (some (.d (.list xs))))[j]? = some (some (.own ys)) → δ[j]? = some (some (.own ys)) := fun j ys ej => by
        by_cases hj : i = j
        · subst hj
          rw [List.getElem?_set_self hi] at ej
          cases ej
        · rw [List.getElem?_set_ne hj] at ej; exact ej
      exact r.one j m ys zs w (nj j ys e1) (nj m zs e2) e3 e4
  · exact ⟨P, fun _ h => h, r⟩
theorem FnS.sub {O P P' : List Addr} {H : Hp} {T : Ends} {r : Except Value Out} (h : FnS E O P H T r) (hs : ∀ a, a ∈ P' → a ∈ P) : FnS E O P' H T r := h.on (.sub hs)
theorem ds_frz (i : Nat) (h : PSd X E sts F) : PSd X E sts (fun δ => F (frz i δ)) := PSs.mono h fun T σ H q => by
  obtain ⟨O, P, δ, r, rs, e, q⟩ := q
  obtain ⟨P', hP, rs'⟩ := rs.frz i
  exact ⟨O, P', frz i δ, r, rs', e, q.sub hP⟩
noncomputable def fIf (gc : DS → M Bool) (F G : DS → M Out) (δ : DS) : M Out := bd (gc δ) fun k => if k = true then F δ else G δ
theorem st_if {as bs : List Stmt} (hc : PB X E c gc) (ha : PSd X E as F) (hb : PSd X E bs G) : PSt X E (.If c as bs pos) (fIf gc F G) := PS.mono (ps_if hc ha hb) fun T σ H q => by
  obtain ⟨O, P, δ, r, rs, e, q⟩ := q
  rcases bd_cases e with ⟨k, e1, e2⟩ | ⟨cx, e1, e2⟩
  · refine ⟨O, P, δ, .ok k, rs, e1, fun H1 s1 => ?_⟩
    cases k with
    | true => exact iteT ⟨O, P, δ, r, rs.same s1, e2, q.on (.same s1)⟩
    | false => exact iteF ⟨O, P, δ, r, rs.same s1, e2, q.on (.same s1)⟩
  · subst e2
    exact ⟨O, P, δ, .error cx, rs, e1, fun dx H' s => q dx H' P (.same s)⟩
noncomputable def fRet (f : DS → M DV) (δ : DS) : M Out := bd (f δ) fun x => rt (.rt x)
theorem st_ret (he : PX X E e f) : PSt X E (.Return (some e) pos) (fRet f) := PS.mono (ps_ret he) fun T σ H q => by
  obtain ⟨O, P, δ, r, rs, e, q⟩ := q
  rcases bd_cases e with ⟨x, e1, e2⟩ | ⟨cx, e1, e2⟩
  · cases e2
    exact ⟨O, P, δ, .ok x, rs, e1, fun v H1 s1 rx => q v H H1 P .refl s1 rs.dom rs.apart rx⟩
  · subst e2
    exact ⟨O, P, δ, .error cx, rs, e1, fun dx H' s => q dx H' P (.same s)⟩
noncomputable def fDrop (f : DS → M DV) (δ : DS) : M Out := bd (f δ) fun _ => rt (.nx δ)
theorem st_expr (he : PX X E e f) (hs : swapsWith e none pos.line X.env = pure false := by rfl) : PSt X E (.Expr e pos) (fDrop f) := PS.mono (ps_expr he hs) fun T σ H q => by
  obtain ⟨O, P, δ, r, rs, e, q⟩ := q
  rcases bd_cases e with ⟨x, e1, e2⟩ | ⟨cx, e1, e2⟩
  · cases e2
    exact ⟨O, P, δ, .ok x, rs, e1, fun v H1 s1 rx => q σ H1 P (.same s1) (rs.same s1)⟩
  · subst e2
    exact ⟨O, P, δ, .error cx, rs, e1, fun dx H' s => q dx H' P (.same s)⟩
noncomputable def asgn : DV → Option DV
  | .d x => some (.d x)
  | .ob C fs => some (.ob C fs)
  | .tbl kvs => some (.tbl kvs)
  | .ex q => some (.ex q)
  | .scr K ns => some (.scr K ns)
  | .new xs => some (.own xs)
  | .own _ => none
@[simp] theorem asgn_d (x : D) : asgn (.d x) = some (.d x) := rfl
@[simp] theorem asgn_ob (C : Addr) (fs : List (Str × D)) : asgn (.ob C fs) = some (.ob C fs) := rfl
@[simp] theorem asgn_new (xs : List D) : asgn (.new xs) = some (.own xs) := rfl
@[simp] theorem asgn_scr (K : PySem.W.Frag) (ns : List Int) : asgn (.scr K ns) = some (.scr K ns) := rfl
theorem RS.asg {O P : List Addr} {H H1 : Hp} {σ : St} {δ : DS} {x y : DV} {v : V} (r : RS O P H σ δ) (s1 : Same H H1) (rx : RE O P H H1 x v) (h : asgn x = some y) (i : Nat) :
    ∃ P', Kp P H P' H1 ∧ RS O P' H1 (σ.set i (some v)) (δ.set i (some y)) := by
  cases x with
  | d z => cases h; exact ⟨P, .same s1, (r.same s1).set rx (fun _ => nofun) fun _ => nofun⟩
  | ob C fs => cases h; exact ⟨P, .same s1, (r.same s1).set rx (fun _ => nofun) fun _ => nofun⟩
  | tbl kvs => cases h; exact ⟨P, .same s1, (r.same s1).set rx (fun _ => nofun) fun _ => nofun⟩
  | ex q => cases h; exact ⟨P, .same s1, (r.same s1).set rx (fun _ => nofun) fun _ => nofun⟩
  | own xs => cases h
  | scr K ns => cases h; exact ⟨P, .same s1, (r.same s1).set rx (fun _ => nofun) fun _ => nofun⟩
  | new xs =>
    cases h
    obtain ⟨a, hn, rs⟩ := r.own s1 rx (i := i)
    refine ⟨a :: P, ⟨fun b o _ e => s1 b o e, fun b hb => ?_⟩, rs⟩
    rcases List.mem_cons.mp hb with z | z
    · exact .inr (z ▸ hn)
    · exact .inl z
noncomputable def fSet (i : Nat) (f : DS → M DV) (δ : DS) : M Out := bd (f δ) fun x => bd (op (asgn x)) fun y => rt (.nx (δ.set i (some y)))
theorem st_set {i : Nat} {x : Str} {pos' : Pos} (hN : X.N.Nodup) (he : PX X E e f) (hi : X.N[i]? = some x := by rfl) (hx : Loc X.env.scope x := by first | exact Or.inl rfl | exact Or.inr rfl) (hs : swapsWith e (some (.Name x pos')) pos.line X.env = pure false := by rfl)
    (hf : X.fn x = true ∨ X.env.scope.names.lookup x = some .local := by first | exact .inl rfl | exact .inr rfl | assumption) : PSt X E (.Assign [.Name x pos'] e pos) (fSet i f) := PS.mono (ps_set hN hi hx he hs hf) fun T σ H q => by
  obtain ⟨O, P, δ, r, rs, e, q⟩ := q
  rcases bd_cases e with ⟨x, e1, e2⟩ | ⟨cx, e1, e2⟩
  · obtain ⟨y, e3, e4⟩ := bd_op e2
    cases e4
    refine ⟨O, P, δ, .ok x, rs, e1, fun v H1 s1 rx => ?_⟩
    obtain ⟨P', k, rs'⟩ := rs.asg s1 rx e3 i
    exact q _ H1 P' k rs'
  · subst e2
    exact ⟨O, P, δ, .error cx, rs, e1, fun dx H' s => q dx H' P (.same s)⟩
noncomputable def fTg (sf : D → DS → Option DS) (f : DS → M DV) (δ : DS) : M Out := bd (f δ) fun x => bd (op (asD x)) fun d => bd (op (sf d δ)) fun δ' => rt (.nx δ')
theorem st_asg {tg : Expr} {g : TG} {sf : D → DS → Option DS} (he : PX X E e f) (hg : PG X tg g) (ht : TgV g sf) (hs : swapsWithSole [tg] e pos.line X.env = pure false := by rfl) (hw : swappedStores [tg] e X.env = pure none := by rfl)
    (h1 : (assignEach [tg] X.env).map (·.2) = [assign tg X.env] := by rfl) : PSt X E (.Assign [tg] e pos) (fTg sf f) := PS.mono (ps_asg he hg hs hw h1) fun T σ H q => by
  obtain ⟨O, P, δ, r, rs, e, q⟩ := q
  rcases bd_cases e with ⟨x, e1, e2⟩ | ⟨cx, e1, e2⟩
  · obtain ⟨d, e3, e4⟩ := bd_op e2
    obtain ⟨δ', e5, e6⟩ := bd_op e4
    cases e6
    refine ⟨O, P, δ, .ok x, rs, e1, fun v H1 s1 rx => ?_⟩
    exact ht O P H1 σ δ δ' d v _ (rs.same s1) (rx.data rs.dom e3) e5 fun σ' rs' => q σ' H1 P (.same s1) rs'
  · subst e2
    exact ⟨O, P, δ, .error cx, rs, e1, fun dx H' s => q dx H' P (.same s)⟩
noncomputable def fPar (i j : Nat) (fr : DS → M (List DV)) (δ : DS) : M Out := bd (fr δ) fun xs => bd (op (datas xs)) fun ds => match ds with
  | [x, y] => rt (.nx ((δ.set i (some (.d x))).set j (some (.d y))))
  | _ => none
noncomputable def fApp (i : Nat) (f : DS → M DV) (δ : DS) : M Out := match δ[i]? with
  | some (some (.own xs)) => bd (f δ) fun x => bd (op (asD x)) fun d => if xs.length < 1000000 then rt (.nx (δ.set i (some (.own (xs ++ [d]))))) else none
  | _ => none
theorem RS.grow {O P : List Addr} {H : Hp} {σ : St} {δ : DS} {i : Nat} {xs ys : List D} {a : Addr} {us : List V} (r : RS O P H σ δ) (e : δ[i]? = some (some (.own xs))) (ev : σ[i]? = some (some (.ref a))) (l : RpL (P ++ O) H ys us) (hP : a ∈ P) :
    Kp P H P (upd H a (.lst us)) ∧ RS O P (upd H a (.lst us)) σ (δ.set i (some (.own ys))) := by
  have hi : i < δ.length := (List.getElem?_eq_some_iff.mp e).1
  have k : Kp P H P (upd H a (.lst us)) := ⟨fun b o hb q => by rw [upd_ne (show b ≠ a from fun z => hb (by rw [z]; exact hP))]; exact q, fun b hb => .inl hb⟩
  have kz : Kp (P ++ O) H (P ++ O) (upd H a (.lst us)) := ⟨fun b o hb q => by rw [upd_ne (show b ≠ a from fun z => hb (by rw [z]; exact List.mem_append_left _ hP))]; exact q, fun b hb => .inl hb⟩
  refine ⟨k, by simp [r.len], fun b hb => ?_, r.apart, fun j y ej => ?_, fun j m ys' zs w e1 e2 e3 e4 => ?_⟩
  · by_cases hb' : b = a
    · exact ⟨_, by rw [hb', upd_same]⟩
    · rw [upd_ne hb']; exact r.dom b hb
  · by_cases hj : i = j
    · subst hj
      rw [List.getElem?_set_self hi] at ej
      cases ej
      exact ⟨.ref a, ev, fun _ => nofun, a, us, rfl, hP, upd_same, l.kp kz⟩
    · rw [List.getElem?_set_ne hj] at ej
      obtain ⟨w, e1, e2, e3⟩ := r.at' j y ej
      refine ⟨w, e1, e2, ?_⟩
      cases y with
      | d y => exact Rp.kp kz e3
      | ob C fs => exact ObR.kp kz e3
      | tbl kvs => exact TbR.kp kz e3
      | ex q => exact e3
      | own zs =>
        obtain ⟨b, vs, eb, hPb, hb, hl⟩ := e3
        have hne : b ≠ a := fun z => hj (r.one i j xs zs (.ref a) e ej ev (by rw [e1, eb, z]))
        exact ⟨b, vs, eb, hPb, by rw [upd_ne hne]; exact hb, hl.kp kz⟩
      | new zs => exact absurd rfl (e2 zs)
      | scr K ns =>
        obtain ⟨b, eb, ⟨hz, hb⟩ | hk⟩ := e3
        · have hba : b ≠ a := fun z => hz (by rw [z]; exact List.mem_append_left _ hP)
          refine ⟨b, eb, .inl ⟨hz, ?_⟩⟩
          rcases hb with hb | ⟨ob, hb⟩
          · exact .inl (by rw [upd_ne hba]; exact hb)
          · exact .inr ⟨ob, by rw [upd_ne hba]; exact hb⟩
        · exact ⟨b, eb, .inr hk⟩
  · have nj : ∀ (j : Nat) (zs : List D), (δ.set i (some (.own ys)))[j]? = some (some (.own zs)) → ∃ zs', δ[j]? = some (some (.own zs')) := fun j zs ej => by
      by_cases hj : i = j
      · exact ⟨xs, hj ▸ e⟩
      · rw [List.getElem?_set_ne hj] at ej; exact ⟨zs, ej⟩
    obtain ⟨z1, d1⟩ := nj j _ e1
    obtain ⟨z2, d2⟩ := nj m _ e2
    exact r.one j m z1 z2 w d1 d2 e3 e4
end
end L3
set_option Elab.async false
set_option linter.all false
set_option maxRecDepth 100000
set_option maxHeartbeats 4000000
set_option autoImplicit false
namespace L3
open PySem PySem.Spec L2
open PyProof.Rows hiding St
theorem Kp.app {O P P' : List Addr} {H H' : Hp} (k : Kp P H P' H') : Kp (P ++ O) H (P' ++ O) H' := ⟨fun a o ha e => k.keep a o (fun h => ha (List.mem_append_left _ h)) e, fun a ha => by
  rcases List.mem_append.mp ha with h | h
  · rcases k.new a h with z | z
    · exact .inl (List.mem_append_left _ z)
    · exact .inr z
  · exact .inl (List.mem_append_right _ h)⟩
noncomputable def ItOk (O P : List Addr) (H : Hp) (J : It) (xs : List D) : Prop := ∀ (i : Nat) (P' : List Addr) (H' : Hp), Kp P H P' H' →
  (∀ d, xs[i]? = some d → J.go i H' ∧ ∀ x H2, J.yld i H' x H2 → H2 = H' ∧ Rp (P' ++ O) H' d x) ∧ (xs.length ≤ i → J.stop i H')
theorem ItOk.on {O P P1 : List Addr} {H H1 : Hp} {J : It} {xs : List D} (h : ItOk O P H J xs) (k : Kp P H P1 H1) : ItOk O P1 H1 J xs := fun i P' H' k' => h i P' H' (k.trans k')
noncomputable def FnI (E : XK) (O P : List Addr) (H : Hp) (R : It → Hp → Prop) : Except Value (List D) → Prop
  | .ok xs => ∀ J H', Same H H' → ItOk O P H' J xs → R J H'
  | .error c => ∀ dx H', Same H H' → E c dx H'
noncomputable def tI (E : XK) (f : DS → M (List D)) : TI := fun σ H R => ∃ O P δ r, RS O P H σ δ ∧ f δ = some r ∧ FnI E O P H R r
noncomputable def PIx (X : Cx) (E : XK) (tg iter : Expr) (f : DS → M (List D)) : Prop := PI X tg iter (tI E f)
theorem PI.mono {X : Cx} {tg e : Expr} {t t' : TI} (h : PI X tg e t) (m : ∀ σ H R, t' σ H R → t σ H R) : PI X tg e t' := fun pins s σ H R I q => h pins s σ H R I (m σ H R q)
noncomputable def iLs (f : DS → M DV) (δ : DS) : M (List D) := bd (f δ) fun x => match asD x with
  | some (.list xs) => rt xs
  | _ => none
noncomputable def iTp (f : DS → M DV) (δ : DS) : M (List D) := bd (f δ) fun x => match x with
  | .d (.tuple xs) => rt xs
  | _ => none
noncomputable def runI (lo : Int) (n : Nat) : List D := (List.range n).map fun (k : Nat) => PyData.int (lo + (k : Int))
theorem runI_len (lo : Int) (n : Nat) : (runI lo n).length = n := by simp [runI]
theorem runI_get {lo : Int} {n i : Nat} {d : D} (h : (runI lo n)[i]? = some d) : i < n ∧ d = .int (lo + (i : Int)) := by
  have hi : i < n := by rw [← runI_len lo n]; exact (List.getElem?_eq_some_iff.mp h).1
  refine ⟨hi, ?_⟩
  unfold runI at h
  rw [List.getElem?_map, List.getElem?_range hi] at h
  cases h; rfl
noncomputable def iR1 (fr : DS → M (List DV)) (δ : DS) : M (List D) := bd (fr δ) fun xs => match xs with
  | [.d (.int j)] => if -(2 ^ 62) ≤ j ∧ j < 2 ^ 62 then rt (runI 0 j.toNat) else none
  | _ => none
noncomputable def iR2 (fr : DS → M (List DV)) (δ : DS) : M (List D) := bd (fr δ) fun xs => match xs with
  | [.d (.int i), .d (.int j)] => if -(2 ^ 62) ≤ i ∧ i < 2 ^ 62 ∧ -(2 ^ 62) ≤ j ∧ j < 2 ^ 62 then rt (runI i (j - i).toNat) else none
  | _ => none
section
variable {X : Cx} {E : XK} {tg e a b : Expr} {f : DS → M DV} {fr : DS → M (List DV)} {p pos : Pos}
theorem it_range {O P : List Addr} {H : Hp} (lo : Int) (n : Nat) : ItOk O P H (Itr lo n) (runI lo n) := fun i P' H' k => by
  refine ⟨fun d hd => ?_, fun h => ?_⟩
  · obtain ⟨hi, rfl⟩ := runI_get hd
    exact ⟨hi, fun x H2 ⟨e1, e2⟩ => ⟨e1, by rw [e2]; exact .int _⟩⟩
  · rw [runI_len] at h; exact h
theorem it_list {O P : List Addr} {H : Hp} {K : PySem.W.Frag} {xs : List D} {v : V} (r : Rp (P ++ O) H (.list xs) v) : ∃ a, v = .ref a ∧ (∃ vs, SqL K H a vs) ∧ ItOk O P H (Itl K a) xs := by
  cases r with
  | @lst a _ vs hz ha l =>
    refine ⟨a, rfl, ⟨vs, SqL.of ha⟩, fun i P' H' k => ?_⟩
    have ha' := k.keep a _ (fun h => hz (List.mem_append_left _ h)) ha
    have l' := l.kp (Kp.app (O := O) k)
    refine ⟨fun d hd => ?_, fun h => ⟨vs, SqL.of ha', by rw [← l.length]; exact h⟩⟩
    obtain ⟨x, hx, rx⟩ := l'.get hd
    refine ⟨⟨vs, x, SqL.of ha', hx⟩, fun y H2 ⟨e1, e2⟩ => ⟨e1, ?_⟩⟩
    have := e2 vs (SqL.of ha')
    rw [hx] at this
    cases this; exact rx
theorem it_tup {O P : List Addr} {H : Hp} {K : PySem.W.Frag} {xs : List D} {v : V} (r : Rp (P ++ O) H (.tuple xs) v) : ∃ a, v = .ref a ∧ (∃ vs, SqT K H a vs) ∧ ItOk O P H (Itt K a) xs := by
  cases r with
  | @tup a _ vs hz ha l =>
    refine ⟨a, rfl, ⟨vs, SqT.of ha⟩, fun i P' H' k => ?_⟩
    have ha' := k.keep a _ (fun h => hz (List.mem_append_left _ h)) ha
    have l' := l.kp (Kp.app (O := O) k)
    refine ⟨fun d hd => ?_, fun h => ⟨vs, SqT.of ha', by rw [← l.length]; exact h⟩⟩
    obtain ⟨x, hx, rx⟩ := l'.get hd
    refine ⟨⟨vs, x, SqT.of ha', hx⟩, fun y H2 ⟨e1, e2⟩ => ⟨e1, ?_⟩⟩
    have := e2 vs (SqT.of ha')
    rw [hx] at this
    cases this; exact rx
theorem ix_ls (he : PX X E e f) : PIx X E tg e (iLs f) := PI.mono (pi_list he) fun σ H R q => by
  obtain ⟨O, P, δ, r, rs, e, q⟩ := q
  rcases bd_cases e with ⟨x, e1, e2⟩ | ⟨cx, e1, e2⟩
  · refine ⟨O, P, δ, .ok x, rs, e1, fun v H1 s1 rx => ?_⟩
    split at e2
    · rename_i xs h
      cases e2
      obtain ⟨a, rfl, h1, h2⟩ := it_list (K := X.K) (rx.data rs.dom h)
      exact ⟨a, rfl, h1, q _ H1 s1 h2⟩
    · cases e2
  · subst e2
    exact ⟨O, P, δ, .error cx, rs, e1, q⟩
theorem ix_tp (he : PX X E e f) : PIx X E tg e (iTp f) := PI.mono (pi_tup he) fun σ H R q => by
  obtain ⟨O, P, δ, r, rs, e, q⟩ := q
  rcases bd_cases e with ⟨x, e1, e2⟩ | ⟨cx, e1, e2⟩
  · refine ⟨O, P, δ, .ok x, rs, e1, fun v H1 s1 rx => ?_⟩
    split at e2
    · cases e2
      obtain ⟨a, rfl, h1, h2⟩ := it_tup (K := X.K) rx
      exact ⟨a, rfl, h1, q _ H1 s1 h2⟩
    · cases e2
  · subst e2
    exact ⟨O, P, δ, .error cx, rs, e1, q⟩
theorem ix_r1 (hm : X.mg "range" = none) (ha : PAs X E [a] fr) (hg : Gl X "range" := by rfl) (hs : starEach [a] X.env = [(false, eval a X.env)] := by rfl) : PIx X E tg (.Call (.Name "range" p) [a] [] pos) (iR1 fr) := PI.mono (pi_range1 hg hm ha hs) fun σ H R q => by
  obtain ⟨O, P, δ, r, rs, e, q⟩ := q
  rcases bd_cases e with ⟨xs, e1, e2⟩ | ⟨cx, e1, e2⟩
  · refine ⟨O, P, δ, .ok xs, rs, e1, fun vs H1 s1 rx => ?_⟩
    split at e2
    · split at e2
      · rename_i h
        cases e2
        cases rx with
        | cons r1 rr =>
          cases rr
          cases r1
          exact ⟨_, rfl, h.1, h.2, q _ H1 s1 (it_range 0 _)⟩
      · cases e2
    · cases e2
  · subst e2
    exact ⟨O, P, δ, .error cx, rs, e1, q⟩
theorem ix_r2 (hm : X.mg "range" = none) (ha : PAs X E [a, b] fr) (hg : Gl X "range" := by rfl) (hs : starEach [a, b] X.env = [(false, eval a X.env), (false, eval b X.env)] := by rfl) (hs2 : starEach [b] X.env = [(false, eval b X.env)] := by rfl) :
    PIx X E tg (.Call (.Name "range" p) [a, b] [] pos) (iR2 fr) := PI.mono (pi_range2 hg hm ha hs hs2) fun σ H R q => by
  obtain ⟨O, P, δ, r, rs, e, q⟩ := q
  rcases bd_cases e with ⟨xs, e1, e2⟩ | ⟨cx, e1, e2⟩
  · refine ⟨O, P, δ, .ok xs, rs, e1, fun vs H1 s1 rx => ?_⟩
    split at e2
    · split at e2
      · rename_i h
        cases e2
        cases rx with
        | cons r1 rr =>
          cases rr with
          | cons r2 rr =>
            cases rr
            cases r1
            cases r2
            exact ⟨_, _, rfl, h, q _ H1 s1 (it_range _ _)⟩
      · cases e2
    · cases e2
  · subst e2
    exact ⟨O, P, δ, .error cx, rs, e1, q⟩
end
noncomputable def lpo (G : DS → M Out) (o : Out) : M Out := match o with
  | .nx δ => G δ
  | .ct δ => G δ
  | .bk δ => rt (.nx δ)
  | .rt x => rt (.rt x)
@[simp] theorem lpo_nx (G : DS → M Out) (δ : DS) : lpo G (.nx δ) = G δ := rfl
@[simp] theorem lpo_ct (G : DS → M Out) (δ : DS) : lpo G (.ct δ) = G δ := rfl
@[simp] theorem lpo_bk (G : DS → M Out) (δ : DS) : lpo G (.bk δ) = rt (.nx δ) := rfl
@[simp] theorem lpo_rt (G : DS → M Out) (x : DV) : lpo G (.rt x) = rt (.rt x) := rfl
noncomputable def loopD (sf : D → DS → Option DS) (B : DS → M Out) : List D → DS → M Out
  | [], δ => rt (.nx δ)
  | d :: r, δ => bd (op (sf d δ)) fun δ1 => bd (B δ1) (lpo (loopD sf B r))
noncomputable def fFor (fi : DS → M (List D)) (sf : D → DS → Option DS) (B : DS → M Out) (δ : DS) : M Out := bd (fi δ) fun xs => loopD sf B xs δ
section
variable {X : Cx} {E : XK} {tg iter : Expr} {body : List Stmt} {fi : DS → M (List D)} {g : TG} {sf : D → DS → Option DS} {B : DS → M Out} {pos : Pos}
theorem st_for (hp : PassesOwn (model X.prog X.w) X.A X.env X.xe) (hc : X.calm = true) (hi : PIx X E tg iter fi) (hg : PG X tg g) (ht : TgV g sf) (hb : PSd X E body B)
    (hs : ∀ x, foldedSetIterable iter X.env x = pure x := by intro _; rfl) : PSt X E (.For tg iter body [] pos) (fFor fi sf B) := PS.mono (ps_for hp hc hi hg hb hs) fun T σ H q => by
  obtain ⟨O, P, δ, r, rs, e, q⟩ := q
  rcases bd_cases e with ⟨xs, e1, e2⟩ | ⟨cx, e1, e2⟩
  · refine ⟨O, P, δ, .ok xs, rs, e1, fun J H1 s1 it => ?_⟩
    refine ⟨fun i m σ' H' => m = xs.length - i ∧ i ≤ xs.length ∧ ∃ P' δ', Kp P H1 P' H' ∧ RS O P' H' σ' δ' ∧ loopD sf B (xs.drop i) δ' = some r, ⟨xs.length, by simp, Nat.zero_le _, P, δ, .refl, rs.same s1, e2⟩, ?_⟩
    rintro i m σ' H' ⟨rfl, hi, P', δ', k, rs', el⟩
    have q' := q.on ((Kp.same s1).trans k)
    by_cases hlt : i < xs.length
    · obtain ⟨go, yl⟩ := (it i P' H' k).1 xs[i] (by simp [hlt])
      refine .inr ⟨go, fun σ2 H2 => ∃ P2 δ2, Kp P H1 P2 H2 ∧ RS O P2 H2 σ2 δ2 ∧ loopD sf B (xs.drop (i + 1)) δ2 = some r, fun σ2 H2 ⟨P2, δ2, h1, h2, h3⟩ => ⟨xs.length - (i + 1), by lia, rfl, hlt, P2, δ2, h1, h2, h3⟩, fun x H2 hy => ?_⟩
      obtain ⟨rfl, rx⟩ := yl x H2 hy
      rw [List.drop_eq_getElem_cons hlt] at el
      obtain ⟨δ1, e3, e4⟩ := bd_op el
      refine ht O P' H2 σ' δ' δ1 _ x _ rs' rx e3 fun σ1 rs1 => ?_
      rcases bd_cases e4 with ⟨o, e5, e6⟩ | ⟨cx, e5, e6⟩
      · refine ⟨O, P', δ1, .ok o, rs1, e5, ?_⟩
        cases o with
        | nx δ2 => exact fun σ2 H3 P2 k2 rs2 => ⟨P2, δ2, k.trans k2, rs2, e6⟩
        | ct δ2 => exact fun σ2 H3 P2 k2 rs2 => ⟨P2, δ2, k.trans k2, rs2, e6⟩
        | bk δ2 => cases e6; exact q'
        | rt y => cases e6; exact q'
      · subst e6
        exact ⟨O, P', δ1, .error cx, rs1, e5, q'⟩
    · have hin : i = xs.length := by lia
      subst hin
      rw [List.drop_length] at el
      cases el
      exact .inl ⟨(it _ P' H' k).2 (Nat.le_refl _), q' σ' H' P' .refl rs'⟩
  · subst e2
    exact ⟨O, P, δ, .error cx, rs, e1, fun dx H' s => q dx H' P (.same s)⟩
end
noncomputable def subD (k : Nat) (js : List Nat) (δ : DS) : DS := List.replicate k none ++ js.map fun j => (δ[j]?).join
theorem getJoin {α : Type} {o : Option (Option α)} {x : α} (h : o.join = some x) : o = some (some x) := by
  cases o with
  | none => cases h
  | some z => simp only [Option.join] at h; rw [← h]; rfl
theorem RS.block {O P : List Addr} {H : Hp} {σ : St} {δ : DS} (r : RS O P H σ δ) (k : Nat) (js : List Nat) (hj : js.Nodup) : RS O P H (subSt k js σ) (subD k js δ) := by
  have at0 : ∀ (i : Nat) (x : DV), (subD k js δ)[i]? = some (some x) → k ≤ i ∧ ∃ j, js[i - k]? = some j ∧ δ[j]? = some (some x) := fun i x h => by
    unfold subD at h
    by_cases hi : i < k
    · rw [List.getElem?_append_left (by simpa using hi), List.getElem?_replicate] at h
      split at h <;> cases h
    · rw [List.getElem?_append_right (by simpa using hi), List.length_replicate, List.getElem?_map] at h
      cases e : js[i - k]? with
      | none => rw [e] at h; cases h
      | some j =>
        rw [e] at h
        exact ⟨by lia, j, rfl, getJoin (Option.some.inj h)⟩
  have sg : ∀ (i j : Nat), k ≤ i → js[i - k]? = some j → (subSt k js σ)[i]? = some ((σ[j]?).join) := fun i j hi e => by
    unfold subSt
    rw [List.getElem?_append_right (by simpa using hi), List.length_replicate, List.getElem?_map, e]
    rfl
  refine ⟨by unfold subSt subD; simp, r.dom, r.apart, fun i x h => ?_, fun i j xs ys v h1 h2 h3 h4 => ?_⟩
  · obtain ⟨hi, j, ej, ed⟩ := at0 i x h
    obtain ⟨v, e1, e2, e3⟩ := r.at' j x ed
    exact ⟨v, by rw [sg i j hi ej, e1]; rfl, e2, e3⟩
  · obtain ⟨hi, i', ei, di⟩ := at0 i _ h1
    obtain ⟨hj', j', ej, dj⟩ := at0 j _ h2
    rw [sg i i' hi ei] at h3
    rw [sg j j' hj' ej] at h4
    have := r.one i' j' xs ys v di dj (getJoin (Option.some.inj h3)) (getJoin (Option.some.inj h4))
    subst this
    obtain ⟨l1, g1⟩ := List.getElem?_eq_some_iff.mp ei
    obtain ⟨l2, g2⟩ := List.getElem?_eq_some_iff.mp ej
    have := (List.getElem_inj hj).mp (g1.trans g2.symm)
    lia
noncomputable def compD (sf : D → DS → Option DS) (gc : DS → M Bool) (fe : DS → M DV) (δ : DS) : List D → Option (List D)
  | [] => some []
  | d :: r => match sf d δ with
    | none => none
    | some δ1 => match gc δ1 with
      | some (.ok false) => compD sf gc fe δ r
      | some (.ok true) => match fe δ1 with
        | some (.ok y) => match asD y, compD sf gc fe δ r with
          | some z, some zs => some (z :: zs)
          | _, _ => none
        | _ => none
      | _ => none
noncomputable def bYes (_ : DS) : M Bool := rt true
noncomputable def eComp (k : Nat) (js : List Nat) (fi : DS → M (List D)) (sf : D → DS → Option DS) (gc : DS → M Bool) (fe : DS → M DV) (δ : DS) : M DV := bd (fi δ) fun xs => if xs.length ≤ 1000000 then bd (op (compD sf gc fe (subD k js δ) xs)) fun ys => rt (.new ys) else none
theorem pf_yes {X : Cx} : PF X [] (tBo E0 bYes) := fun pins s σ H Q I q => pf_nil pins s σ H Q I (by
  obtain ⟨O, P, δ, r, rs, e, q⟩ := q
  cases e
  exact q H (Same.refl H))
theorem compD_len {sf : D → DS → Option DS} {gc : DS → M Bool} {fe : DS → M DV} {δ : DS} : ∀ {xs ys : List D}, compD sf gc fe δ xs = some ys → ys.length ≤ xs.length
  | [], ys, h => by cases h; simp
  | d :: r, ys, h => by
    unfold compD at h
    split at h
    · cases h
    · split at h
      · have := compD_len (xs := r) h
        simp; lia
      · split at h
        · split at h
          · rename_i z zs e1 e2
            cases h
            have := compD_len (xs := r) e2
            simp; lia
          · cases h
        · cases h
      · cases h
section
variable {X : Cx} {E : XK} {k : Nat} {js : List Nat} {N' : List Str} {scope : Scope} {elt tg iter : Expr} {ifs : List Expr} {pos : Pos} {fi : DS → M (List D)} {g : TG} {sf : D → DS → Option DS} {gc : DS → M Bool} {fe : DS → M DV}
theorem comp_read (hj : js.Nodup) (ht : TgV g sf) (hsub : ∀ δ d δ1, sf d (subD k js δ) = some δ1 → Sub (subD k js δ) δ1) {σ : St} {H : Hp} {Q : VK} (q : tE E (eComp k js fi sf gc fe) σ H Q) : tComp (tI E fi) k js g (tBo E0 gc) (tE E0 fe) σ H Q := by
  obtain ⟨O, P, δ, r, rs, e, q⟩ := q
  rcases bd_cases e with ⟨xs, e1, e2⟩ | ⟨cx, e1, e2⟩
  · refine ⟨O, P, δ, .ok xs, rs, e1, fun J H1 s1 it => ?_⟩
    split at e2
    · rename_i hz
      obtain ⟨ys, e3, e4⟩ := bd_op e2
      cases e4
      have hlen := compD_len e3
      refine ⟨fun i m σ' H' vs => m = xs.length - i ∧ i ≤ xs.length ∧ Same H1 H' ∧ RS O P H' σ' (subD k js δ) ∧ ∃ ds es, RpL (P ++ O) H' ds vs ∧ compD sf gc fe (subD k js δ) (xs.drop i) = some es ∧ ys = ds ++ es,
        ⟨xs.length, by simp, Nat.zero_le _, Same.refl H1, (rs.same s1).block k js hj, [], ys, .nil, e3, rfl⟩, ?_⟩
      rintro i m σ' H' vs ⟨rfl, hi, sH, rs', ds, es, l, ec, ey⟩
      have hvl : vs.length ≤ ys.length := by rw [ey, ← l.length]; simp
      by_cases hlt : i < xs.length
      · refine .inr ?_
        rw [List.drop_eq_getElem_cons hlt] at ec
        unfold compD at ec
        obtain ⟨go, yl⟩ := (it i P H' (.same sH)).1 xs[i] (by simp [hlt])
        split at ec
        · cases ec
        · rename_i δ1 e5
          refine ⟨go, Nat.lt_of_le_of_lt (Nat.le_trans hvl (Nat.le_trans hlen hz)) (by rw [sizeLine_eq]; decide), fun x H2 hy => ?_⟩
          obtain ⟨rfl, rx⟩ := yl x H2 hy
          refine ht O P H2 σ' _ δ1 _ x _ rs' rx e5 fun σ1 rs1 => ?_
          have hsb := hsub δ _ δ1 e5
          split at ec
          · rename_i e6
            refine ⟨O, P, δ1, .ok false, rs1, e6, fun H3 s3 => ?_⟩
            exact iteF ⟨xs.length - (i + 1), by lia, rfl, hlt, sH.trans s3, (rs1.same s3).forget hsb, ds, es, l.kp (.same s3), ec, ey⟩
          · rename_i e6
            refine ⟨O, P, δ1, .ok true, rs1, e6, fun H3 s3 => ?_⟩
            refine iteT ?_
            split at ec
            · rename_i y e7
              split at ec
              · rename_i z zs e8 e9
                cases ec
                refine ⟨O, P, δ1, .ok y, rs1.same s3, e7, fun v H4 s4 ry => ?_⟩
                refine ⟨xs.length - (i + 1), by lia, rfl, hlt, sH.trans (s3.trans s4), (rs1.same (s3.trans s4)).forget hsb, ds ++ [z], zs, (l.kp (.same (s3.trans s4))).append (.cons (ry.data (rs1.same s3).dom e8) .nil), e9, ?_⟩
                rw [ey, List.append_assoc]; rfl
              · cases ec
            · cases ec
          · cases ec
      · have hin : i = xs.length := by lia
        subst hin
        rw [List.drop_length] at ec
        cases ec
        refine .inl ⟨(it _ P H' (.same sH)).2 (Nat.le_refl _), Nat.le_trans hvl (line_big (Nat.le_trans hlen hz)), fun p hp => ?_⟩
        rw [ey, List.append_nil] at q
        exact q _ _ ((s1.trans sH).trans (same_upd hp)) (RE.made (s1.trans sH) hp l)
    · cases e2
  · subst e2
    exact ⟨O, P, δ, .error cx, rs, e1, q⟩
theorem px_comp (S : CompFit X k js N' scope) (hj : js.Nodup) (hc : X.calm = true) (hi : PIx X E tg iter fi) (ht : TgV g sf) (hsub : ∀ δ d δ1, sf d (subD k js δ) = some δ1 → Sub (subD k js δ) δ1)
    (hg : ∀ C s₂ H₂ fp, PG (compCx X N' scope C s₂ H₂ fp) tg g) (hf : ∀ C s₂ H₂ fp, PF (compCx X N' scope C s₂ H₂ fp) ifs (tBo E0 gc)) (he : ∀ C s₂ H₂ fp, PX (compCx X N' scope C s₂ H₂ fp) E0 elt fe)
    (hs : ∀ x, foldedSetIterable iter X.env x = pure x := by intro _; rfl) : PX X E (.ListComp elt [⟨tg, iter, ifs, 0⟩] scope pos) (eComp k js fi sf gc fe) :=
  PE.mono (pe_comp S hc hi hg hf he hs) fun σ H Q q => comp_read hj ht hsub q
end
end L3
set_option Elab.async false
set_option linter.all false
set_option maxRecDepth 100000
set_option maxHeartbeats 4000000
set_option autoImplicit false
namespace L3
open PySem PySem.Spec L2
open PyProof.Rows hiding St
noncomputable def dst (N : List Str) (xs : List DV) : DS := xs.map some ++ List.replicate (N.length - xs.length) none
noncomputable def res : DV → DV
  | .own xs => .new xs
  | x => x
@[simp] theorem res_d (x : D) : res (.d x) = .d x := rfl
@[simp] theorem res_own (xs : List D) : res (.own xs) = .new xs := rfl
@[simp] theorem res_new (xs : List D) : res (.new xs) = .new xs := rfl
@[simp] theorem res_ob (C : Addr) (fs : List (Str × D)) : res (.ob C fs) = .ob C fs := rfl
noncomputable def outR : Out → M DV
  | .rt x => rt (res x)
  | .nx _ => rt (.d .none)
  | _ => none
@[simp] theorem outR_rt (x : DV) : outR (.rt x) = rt (res x) := rfl
@[simp] theorem outR_nx (δ : DS) : outR (.nx δ) = rt (.d .none) := rfl
noncomputable def mir (N : List Str) (F : DS → M Out) (xs : List DV) : M DV := bd (F (dst N xs)) outR
theorem RS.start {N : List Str} {O : List Addr} {H : Hp} {xs : List DV} {vs : List V} (dom : ∀ a, a ∈ O → ∃ o, H a = some o) (r : REs O [] H H xs vs) : RS O [] H (L2.start N vs) (dst N xs) := by
  have hl : xs.length = vs.length := Paired.length r
  have at0 : ∀ (i : Nat) (x : DV), (dst N xs)[i]? = some (some x) → xs[i]? = some x := fun i x h => by
    unfold dst at h
    by_cases hi : i < xs.length
    · rw [List.getElem?_append_left (by simpa using hi), List.getElem?_map] at h
      cases e : xs[i]? with
      | none => rw [e] at h; cases h
      | some y => rw [e] at h; cases h; rfl
    · rw [List.getElem?_append_right (by simpa using hi), List.getElem?_replicate] at h
      split at h <;> cases h
  have gets : ∀ {xs : List DV} {vs : List V}, REs O [] H H xs vs → ∀ (i : Nat) (x : DV), xs[i]? = some x → ∃ v, vs[i]? = some v ∧ RE O [] H H x v := by
    intro xs vs r
    induction r with
    | nil => intro i x h; simp at h
    | cons r1 _ ih =>
      intro i x h
      cases i with
      | zero => simp at h; subst h; exact ⟨_, rfl, r1⟩
      | succ i => simpa using ih i x (by simpa using h)
  have sv : ∀ (i : Nat) (v : V), vs[i]? = some v → (L2.start N vs)[i]? = some (some v) := fun i v h => by
    have hi : i < vs.length := (List.getElem?_eq_some_iff.mp h).1
    unfold L2.start
    rw [List.getElem?_append_left (by simpa using hi), List.getElem?_map, h]; rfl
  refine ⟨by unfold L2.start dst; simp [hl], fun a ha => dom a ha, fun a ha => (by cases ha), fun i x h => ?_, fun i j ys zs v h1 h2 h3 h4 => ?_⟩
  · obtain ⟨v, e1, e2⟩ := gets r i x (at0 i x h)
    refine ⟨v, sv i v e1, fun ys hx => ?_, e2⟩
    subst hx
    obtain ⟨a, us, _, hn, ha, _⟩ := e2
    rw [hn] at ha; cases ha
  · obtain ⟨v', _, a, us, _, hP, _⟩ := gets r i _ (at0 i _ h1)
    cases hP
theorem RE.out {O P' : List Addr} {H H1 H' : Hp} {x : DV} {v : V} (k : Kp [] H P' H1) (s : Same H1 H') (r : RE O P' H1 H' x v) : Same H H' ∧ RE O [] H H' (res x) v := by
  have sH : Same H H' := fun b o e => s b o (k.keep b o (by simp) e)
  have sub : ∀ a, a ∈ ([] : List Addr) ++ O → a ∈ P' ++ O := fun a ha => List.mem_append_right _ ha
  refine ⟨sH, ?_⟩
  cases x with
  | d x => exact Rp.kp (.sub sub) r
  | ob C fs => exact ObR.kp (.sub sub) r
  | tbl kvs => exact TbR.kp (.sub sub) r
  | ex q => exact r
  | own xs =>
    obtain ⟨a, vs, e, hP, ha, l⟩ := r
    refine ⟨a, vs, e, ?_, ha, l.kp (.sub fun b hb => ?_)⟩
    · rcases k.new a hP with z | z
      · cases z
      · exact z
    · rcases List.mem_cons.mp hb with z | z
      · exact List.mem_append_left _ (z ▸ hP)
      · exact sub b z
  | new xs =>
    obtain ⟨a, vs, e, hn, ha, l⟩ := r
    refine ⟨a, vs, e, ?_, ha, l.kp (.sub fun b hb => ?_)⟩
    · cases q : H a with
      | none => rfl
      | some o => rw [k.keep a o (by simp) q] at hn; cases hn
    · rcases List.mem_cons.mp hb with z | z
      · exact z ▸ List.mem_cons_self
      · exact List.mem_cons_of_mem _ (sub b z)
  | scr K ns =>
    obtain ⟨a, e, hz⟩ := r
    exact ⟨a, e, hz.imp (fun z => ⟨fun h => z.1 (sub a h), z.2⟩) fun z => z⟩
section
variable {P : Program} {w : World} {K : PySem.W.Frag} {mg : Str → Option Value} {base : Heap}
theorem fn0 {x qual : Str} {st : Stmt} {f : Addr} {fd : FuncData} {N ps : List Str} {k n : Nat} {F : DS → M Out} (Fu : Fun K x qual st f fd) (S : FnScope N ps (defScope st)) (hn : ps.length = n)
    (body : ∀ (cdv : Value) (A : Around) (outer : List Env) (s : Shared) (H : Hp) (E : XK), Room k (A.deeper (envOfC qual (defScope st) s.heap.objs.size f cdv)) →
      PSd (cxOf CX0 P w K mg base N qual (defScope st) f cdv A outer s H E).nox E0 (defBody st) F) : FnOk P w K mg base CX0 (k + 1) f fd ps (sp0 n (mir N F)) := by
  refine Fu.ok S (fun vs H Q E h => h.1.trans hn.symm) fun cdv A outer s H vs Q E hr hsp => ⟨_, body cdv A outer s H E hr, ?_⟩
  obtain ⟨_, O, xs, x, dom, rx, e, q⟩ := hsp
  rcases bd_cases e with ⟨o, e1, e2⟩ | ⟨c, _, e2⟩
  · refine ⟨O, [], dst N xs, .ok o, RS.start dom rx, e1, ?_⟩
    cases o with
    | rt y =>
      cases e2
      intro v H1 H' P' k' s' _ _ ry
      obtain ⟨sH, ry'⟩ := ry.out k' s'
      exact q v H' sH ry'
    | nx δ =>
      cases e2
      intro σ' H' P' k' _
      exact q .non H' (fun b o e => k'.keep b o (by simp) e) .none
    | bk δ => cases e2
    | ct δ => cases e2
  · cases e2
end
section
variable {X : Cx} {E : XK} {o e : Expr} {fo fe : DS → M DV}
noncomputable def bools : List D → Option (List Bool)
  | [] => some []
  | .bool b :: r => (bools r).map (b :: ·)
  | _ :: _ => none
theorem bools_get : ∀ {xs : List D} {bs : List Bool}, bools xs = some bs → xs = bs.map PyData.bool
  | [], bs, h => by cases h; rfl
  | x :: r, bs, h => by
    cases x with
    | bool b =>
      unfold bools at h
      cases e : bools r with
      | none => rw [e] at h; cases h
      | some cs => rw [e] at h; cases h; rw [bools_get e]; rfl
    | _ => cases h
theorem bools_map (bs : List Bool) : bools (bs.map PyData.bool) = some bs := by
  induction bs with
  | nil => rfl
  | cons b r ih => rw [List.map_cons, bools, ih]; rfl
noncomputable def gAll (xs : List DV) : M DV := match xs with
  | [x] => bd (op (asL x)) fun ys => bd (op (bools ys)) fun bs => rt (.d (.bool (bs.all id)))
  | _ => none
theorem vals_bools {Z : List Addr} {H : Hp} : ∀ {bs : List Bool} {vs : List V} {us : List Value}, RpL Z H (bs.map PyData.bool) vs → Vals vs us → us = bs.map Value.bool
  | [], _, _, .nil, .nil => rfl
  | b :: r, _, _, .cons p l, .cons q t => by
    cases p
    cases q
    rw [List.map_cons, vals_bools l t]
theorem all_range (bs : List Bool) : ((List.range bs.length).all fun i => (bs[i]?).getD true) = bs.all id := by
  induction bs with
  | nil => rfl
  | cons b r ih =>
    rw [List.length_cons, List.range_succ_eq_map, List.all_cons, List.all_map, List.all_cons]
    have : (r.all id) = ((List.range r.length).all fun i => (r[i]?).getD true) := ih.symm
    rw [this]
    congr 1
theorem cv_all (hc : X.calm = true) : CallV X E (.builtin "all") gAll := fun pins s σ O P H₀ H xs vs us r Q I hd hs rx rv e q => by
  unfold gAll at e
  split at e
  · obtain ⟨ys, e1, e2⟩ := bd_op e
    obtain ⟨bs, e3, e4⟩ := bd_op e2
    cases e4
    cases rx with
    | cons r1 rr =>
      cases rr
      obtain ⟨a, ws, rfl, ha, l⟩ := r1.list e1
      cases rv with
      | cons q1 q2 =>
        cases q2
        cases q1
        have hys := bools_get e3
        subst hys
        obtain ⟨its, ri, pl, hz⟩ := I.list (SqL.of ha)
        have hits := vals_bools l ri
        have hlt : a < s.heap.objs.size := by obtain ⟨_, e', _⟩ := pl.isList; exact Heap.lt_size e'
        have hlist := pl.isList
        refine call_all_walk (wpAny_pyIter_list hlist ?_)
        refine ⟨s.heap.objs.size, [s.heap.objs.size, a], [s.heap.objs.size], its.toArray.size, _, _, fun i => (bs[i]?).getD true, rfl, Walks.list (A := X.A.in1) (I.ok.hd hc) _ a (Nat.ne_of_lt hlt) its.toArray,
          ⟨⟨_, Heap.get?_push_size _ rfl, rfl, rfl⟩, hlist.push _⟩, fun i v s' Q' E' hP hQ => ?_, fun h' tk hk => ?_⟩
        · have hv : (bs[i]?).map Value.bool = some v := by
            have hP' : its.toArray[i]? = some v := hP
            rw [← hP', hits]; simp
          cases eb : bs[i]? with
          | none => rw [eb] at hv; cases hv
          | some b =>
            rw [eb] at hv
            cases hv
            simp only [eb, Option.getD_some] at hQ
            exact wpAny_truthy_bool hQ
        · have hn : its.toArray.size = bs.length := by rw [hits]; simp
          rw [hn, all_range]
          refine ⟨.bl _, H, I.kept (t' := tk) fun b ob eb => hk b ob (fun hm => ?_) (Heap.get?_push_of_some _ eb), rfl, q _ H (Same.refl H) (.bool _)⟩
          rw [List.mem_singleton.mp hm] at eb
          exact Nat.lt_irrefl _ (Heap.lt_size eb)
  · cases e
noncomputable def gCnt (x y : DV) : M DV := match asL x, asQ y with
  | some xs, some d => if d.depth ≤ 60 then rt (.d (.int (xs.countP fun z => PyData.eqv z d))) else none
  | _, _ => none
noncomputable def eCnt (fo fe : DS → M DV) (δ : DS) : M DV := bd (fo δ) fun x => bd (op (asL x)) fun _ => bd (fe δ) fun y => gCnt x y
noncomputable def rCnt (E : XK) (x : V) (vs : List V) (H : Hp) (Q : VK) : Prop := ∃ O P H₀ dx dy v r, vs = [v] ∧ RE O P H₀ H dx x ∧ RE O P H₀ H dy v ∧ gCnt dx dy = some r ∧ Fn E O P H₀ H Q r
theorem mt_count (hu : X.A.units + 64 < cLine) : MtR X "list.count" (rCnt E) := fun pins s σ H x xs v us Q I rx rs h => by
  obtain ⟨O, P, H₀, dx, dy, w, r, rfl, r1, r2, e, q⟩ := h
  obtain ⟨u, rfl, ru⟩ := vals1 rs
  unfold gCnt at e
  split at e
  · rename_i ys d h1 h2
    split at e
    · rename_i hdp
      cases e
      obtain ⟨a, ws, rfl, ha, l⟩ := r1.list h1
      cases rx
      obtain ⟨⟨as, ra⟩, la⟩ := r2.reads I ru h2
      obtain ⟨its, ri, pl, hz⟩ := I.list (SqL.of ha)
      obtain ⟨bs, rb⟩ := RpL.reads I l ri
      obtain ⟨⟨cls, dd, data, sl⟩, ho, hc, n, hd⟩ := pl.isList
      simp only at hc hd
      subst hc hd
      refine call_meets PySem.F.slot_list_count ⟨_, ho, rfl⟩ PySem.F.entry_list_count (PySem.F.args_list_count_2 _ _) (SeqAt.list_countAt a its.toArray n dd sl u fun y => PyData.eqv (SeqAt.readOf s.heap y) d)
        ⟨ho, SeqAt.items_eqAt (vs := its.toArray) rb ra l.lay la (by have := Nat.min_le_right (PyData.depthAll ys) d.depth; lia), ?_⟩
      have hcount : its.toArray.toList.countP (fun y => PyData.eqv (SeqAt.readOf s.heap y) d) = ys.countP fun z => PyData.eqv z d := by
        rw [← SeqAt.readsAll_map ys _ _ l.lay rb, List.countP_map]; rfl
      rw [hcount]
      exact ⟨.int _, H, I.tok _, ⟨_, rfl⟩, q _ H (Same.refl H) (.int _)⟩
    · cases e
  · cases e
theorem px_count {apos cpos : Pos} (hu : X.A.units + 64 < cLine) (ho : PX X E o fo) (he : PX X E e fe)
    (hbase : attributeBase o "count" X.env (eval o X.env) = eval o X.env := by rfl)
    (hfew : ((backTo cpos (starEach [e] X.env)).all (fun x => !x.1) && (backToKw cpos (keywordEach [] X.env)).all (fun x => x.1.isSome)
      && decide ([e].length + ([] : List Keyword).length + (if ([] : List Keyword).isEmpty then 0 else 1) < 30)) = true := by rfl)
    (hline : (apos.endLine == cpos.line) = true := by rfl) (hs : starEach [e] X.env = (false, eval e X.env) :: starEach [] X.env := by rfl) (hplain : (backTo cpos (starEach [] X.env)).any (·.1) = false := by rfl) :
    PX X E (.Call (.Attribute o "count" apos) [e] [] cpos) (eCnt fo fe) :=
  PE.mono (pe_bm PySem.F.plainAttrs_list PySem.F.slot_list_count PySem.F.type_list_count (mt_count (E := E) hu) ho (pa_cons he pa_nil hs) hbase hfew hline hs hplain) fun σ H Q q =>
    tE_bd (g := fun δ x => bd (op (asL x)) fun _ => bd (fe δ) fun y => gCnt x y) q fun O P δ x r v H1 rs rs1 s1 rx e q => by
      obtain ⟨ys, h1, e⟩ := bd_op e
      obtain ⟨a, ws, rfl, ha, _⟩ := rx.list h1
      refine ⟨.inl ⟨rfl, _, SqL.of ha⟩, ?_⟩
      rcases bd_cases e with ⟨y, e1, e2⟩ | ⟨c, e1, e2⟩
      · exact ⟨O, P, δ, .ok y, rs1, e1, fun u H2 s2 ry => ⟨O, P, H, x, y, u, r, rfl, rx.on s2, ry.from s1, e2, q.on s2⟩⟩
      · subst e2
        exact ⟨O, P, δ, .error c, rs1, e1, q⟩
end
end L3
set_option Elab.async false
set_option linter.all false
set_option maxRecDepth 100000
set_option maxHeartbeats 4000000
set_option autoImplicit false
namespace L3
open PySem PySem.Spec L2
open PyProof.Rows hiding St
open PySem.W (KasT kas_asc kas_desc kas_tail3 kas_descPart kas_count kas_place kas_bin kas_sort kas_rev)
noncomputable abbrev ll := HT.lexLt
theorem ll_irr : ∀ a : List Int, ll a a = false
  | [] => rfl
  | x :: r => by
    show HT.lexLt (x :: r) (x :: r) = false
    rw [HT.lexLt_cons, if_pos rfl]
    exact ll_irr r
theorem ll_tri : ∀ {a b : List Int}, ll a b = false → ll b a = false → a = b
  | [], [], _, _ => rfl
  | [], _ :: _, h, _ => by cases h
  | _ :: _, [], _, h => by cases h
  | x :: xs, y :: ys, h1, h2 => by
    have e1 : HT.lexLt (x :: xs) (y :: ys) = false := h1
    have e2 : HT.lexLt (y :: ys) (x :: xs) = false := h2
    rw [HT.lexLt_cons] at e1 e2
    by_cases h : x = y
    · subst h
      rw [if_pos rfl] at e1 e2
      rw [ll_tri e1 e2]
    · rw [if_neg h] at e1
      rw [if_neg (Ne.symm h)] at e2
      have := of_decide_eq_false e1
      have := of_decide_eq_false e2
      lia
theorem ll_trans : ∀ {a b c : List Int}, ll a b = true → ll b c = true → ll a c = true
  | [], [], _, h, _ => by cases h
  | [], _ :: _, [], _, h => by cases h
  | [], _ :: _, _ :: _, _, _ => rfl
  | _ :: _, [], _, h, _ => by cases h
  | _ :: _, _ :: _, [], _, h => by cases h
  | x :: xs, y :: ys, z :: zs, h1, h2 => by
    have e1 : HT.lexLt (x :: xs) (y :: ys) = true := h1
    have e2 : HT.lexLt (y :: ys) (z :: zs) = true := h2
    show HT.lexLt (x :: xs) (z :: zs) = true
    rw [HT.lexLt_cons] at e1 e2 ⊢
    by_cases h : x = y
    · subst h
      rw [if_pos rfl] at e1
      by_cases h' : x = z
      · subst h'
        rw [if_pos rfl] at e2 ⊢
        exact ll_trans e1 e2
      · rw [if_neg h'] at e2 ⊢
        exact e2
    · rw [if_neg h] at e1
      have l1 := of_decide_eq_true e1
      by_cases h' : y = z
      · subst h'
        rw [if_neg h]; exact e1
      · rw [if_neg h'] at e2
        have l2 := of_decide_eq_true e2
        rw [if_neg (by lia)]
        exact decide_eq_true (by lia)
theorem nl_trans {a b c : List Int} (h1 : ll b a = false) (h2 : ll c b = false) : ll c a = false := by
  cases e : ll c a with
  | false => rfl
  | true =>
    cases e2 : ll a b with
    | true => rw [ll_trans e e2] at h2; cases h2
    | false =>
      have := ll_tri e2 h1
      subst this
      rw [e] at h2; cases h2
section
variable (key : Nat → List Int)
noncomputable def Bk (p : Array Nat) (k : Nat) : List Int := key (p.getD k 0)
noncomputable def Up (p : Array Nat) (m : Nat) : Prop := ∀ i j, i ≤ j → j < m → ll (Bk key p j) (Bk key p i) = false
noncomputable def Dn (p : Array Nat) (m : Nat) : Prop := ∀ i j, i ≤ j → j < m → ll (Bk key p i) (Bk key p j) = false
variable {key}
theorem Up.step {p : Array Nat} {n : Nat} (h1 : 1 ≤ n) (h : Up key p n) (e : ll (Bk key p n) (Bk key p (n - 1)) = false) : Up key p (n + 1) := fun i j hij hj => by
  by_cases hjn : j = n
  · subst hjn
    by_cases hi : i = j
    · subst hi; exact ll_irr _
    · exact nl_trans (h i (j - 1) (by lia) (by lia)) e
  · exact h i j hij (by lia)
theorem Dn.step {p : Array Nat} {n : Nat} (h1 : 1 ≤ n) (h : Dn key p n) (e : ll (Bk key p (n - 1)) (Bk key p n) = false) : Dn key p (n + 1) := fun i j hij hj => by
  by_cases hjn : j = n
  · subst hjn
    by_cases hi : i = j
    · subst hi; exact ll_irr _
    · exact nl_trans e (h i (j - 1) (by lia) (by lia))
  · exact h i j hij (by lia)
theorem Dn.congr {p p' : Array Nat} {m : Nat} (h : Dn key p m) (e : ∀ k, Bk key p' k = Bk key p k) : Dn key p' m := fun i j a b => by rw [e, e]; exact h i j a b
end
end L3
set_option Elab.async false
set_option linter.all false
set_option maxRecDepth 100000
set_option maxHeartbeats 4000000
set_option autoImplicit false
namespace L3
open PySem PySem.Spec L2
open PyProof.Rows hiding St
open PySem.W (KasT kas_asc kas_desc kas_tail3 kas_descPart kas_count kas_place kas_bin kas_sort kas_rev kas_ask kas_item)
noncomputable def AskR {α : Type} (n : Nat) (R : α → Prop) : KasT α → Prop
  | .ret a => R a
  | .ask i j k => i < n ∧ j < n ∧ ∀ b, AskR n R (k b)
theorem AskR.bind {α β : Type} {n : Nat} {R : α → Prop} {R' : β → Prop} {f : α → KasT β} : ∀ {t : KasT α}, AskR n R t → (∀ a, R a → AskR n R' (f a)) → AskR n R' (t.bind f)
  | .ret a, h, hf => hf a h
  | .ask i j k, h, hf => ⟨h.1, h.2.1, fun b => AskR.bind (h.2.2 b) hf⟩
noncomputable def AllB (n : Nat) (p : Array Nat) : Prop := 1 ≤ n ∧ ∀ x, x ∈ p → x < n
theorem AllB.get {n : Nat} {p : Array Nat} (h : AllB n p) (k : Nat) : p.getD k 0 < n := by
  rw [Array.getD_eq_getD_getElem?]
  cases e : p[k]? with
  | none => exact h.1
  | some x => exact h.2 x (Array.mem_of_getElem? e)
theorem AllB.perm {n : Nat} {p q : Array Nat} (h : AllB n p) (hp : q.Perm p) : AllB n q := ⟨h.1, fun x hx => h.2 x (hp.mem_iff.mp hx)⟩
section
variable {prog : Program} {w : World} {A : Around} {E : Value → Shared → Prop} {s : Shared}
end
noncomputable def kT : D → Option (List Int)
  | .tuple xs => go xs
  | _ => none
where go : List D → Option (List Int)
  | [] => some []
  | .int i :: r => (go r).map (i :: ·)
  | _ :: _ => none
noncomputable def ins (d : D) : List D → List D
  | [] => [d]
  | e :: r => if ll (kOf d) (kOf e) = true then d :: e :: r else e :: ins d r
where kOf (d : D) : List Int := (kT d).getD []
section
variable {X : Cx} {E : XK}
end
end L3
set_option Elab.async false
set_option linter.all false
set_option maxRecDepth 100000
set_option maxHeartbeats 4000000
set_option autoImplicit false
namespace L3
open PySem PySem.Spec L2
open PyProof.Rows hiding St
noncomputable def gPlus := gOr gAdd gCat
noncomputable def gTimes := gOr gMul gRep
noncomputable def gLtD := gOr gLt (gC true)
noncomputable def gLeD := gOr gLe (gC false)
section
variable {X : Cx} {E : XK}
theorem ov_plus : OpV X E (binaryOp .Add) gPlus := ov_add.or ov_cat
theorem ov_times : OpV X E (binaryOp .Mult) gTimes := ov_mul.or ov_rep
theorem ov_ltX (hu : X.A.units + 64 < cLine) : OpV X E (compareOp .Lt) gLtD := ov_lt.or (ov_ltD hu)
theorem ov_leX (hu : X.A.units + 64 < cLine) : OpV X E (compareOp .LtE) gLeD := ov_le.or (ov_leD hu)
end
@[simp] theorem gPlus_int (i j : Int) : gPlus (.d (.int i)) (.d (.int j)) = rt (.d (.int (i + j))) := rfl
@[simp] theorem gAdd_int (i j : Int) : gAdd (.d (.int i)) (.d (.int j)) = rt (.d (.int (i + j))) := rfl
@[simp] theorem gSub_int (i j : Int) : gSub (.d (.int i)) (.d (.int j)) = rt (.d (.int (i - j))) := rfl
@[simp] theorem gLt_int (i j : Int) : gLt (.d (.int i)) (.d (.int j)) = rt (.d (.bool (decide (i < j)))) := rfl
@[simp] theorem gLe_int (i j : Int) : gLe (.d (.int i)) (.d (.int j)) = rt (.d (.bool (decide (i ≤ j)))) := rfl
@[simp] theorem gGt_int (i j : Int) : gGt (.d (.int i)) (.d (.int j)) = rt (.d (.bool (decide (j < i)))) := rfl
@[simp] theorem gGe_int (i j : Int) : gGe (.d (.int i)) (.d (.int j)) = rt (.d (.bool (decide (j ≤ i)))) := rfl
@[simp] theorem gLtD_int (i j : Int) : gLtD (.d (.int i)) (.d (.int j)) = rt (.d (.bool (decide (i < j)))) := rfl
@[simp] theorem gLeD_int (i j : Int) : gLeD (.d (.int i)) (.d (.int j)) = rt (.d (.bool (decide (i ≤ j)))) := rfl
theorem gMod_int {i j : Int} (h : 0 < j) : gMod (.d (.int i)) (.d (.int j)) = rt (.d (.int (i % j))) := by
  unfold gMod gI cMod
  simp [h]
theorem gDiv_int {i j : Int} (h : 0 < j) (h' : j < 1073741824) : gDiv (.d (.int i)) (.d (.int j)) = rt (.d (.int (i / j))) := by
  unfold gDiv gI cDiv
  simp [h, h']
theorem gTimes_int {i j : Int} (h : cMul i j = true) : gTimes (.d (.int i)) (.d (.int j)) = rt (.d (.int (i * j))) := by
  unfold gTimes gOr gMul gI
  simp [h, rt]
theorem bt_len : bootBuiltins "len" = some (.builtin "len") := by decide +kernel
theorem bt_all : bootBuiltins "all" = some (.builtin "all") := by decide +kernel
theorem bt_isinstance : bootBuiltins "isinstance" = some (.builtin "isinstance") := by decide +kernel
theorem bt_list : bootBuiltins "list" = some (.type "list") := by decide +kernel
theorem bt_ValueError : bootBuiltins "ValueError" = some (.type "ValueError") := by decide +kernel
structure Has (P : Program) (w : World) (K : PySem.W.Frag) (mg : Str → Option Value) (base : Heap) (k : Nat) (x : Str) (n : Nat) (fm : List DV → M DV) : Prop where
  ex : ∃ fn fd ps, FnOk P w K mg base CX0 k fn fd ps (sp0 n fm) ∧ mg x = some (.ref fn) ∧ PySem.W.keepIn K (.ref fn) = true ∧ Binds K fd ps []
section
variable {X : Cx} {E : XK} {e : Expr} {es : List Expr} {pos p : Pos} {fa : DS → M DV} {fr : DS → M (List DV)}
theorem px_has {k n : Nat} {x : Str} {fm : List DV → M DV} (F : Has X.prog X.w X.K X.mg X.base k x n fm) (hr : Room k X.A) (ha : PAs X E (e :: es) fr) (hg : Gl X x := by rfl) (hdb : (x == ("__debug__" : Str)) = false := by decide)
    (he : starEach (e :: es) X.env = (false, eval e X.env) :: starEach es X.env := by rfl) (hpl : (backTo pos (starEach es X.env)).any (·.1) = false := by rfl) :
    PX X E (.Call (.Name x p) (e :: es) [] pos) (eCb (gCall n fm) fr) := by
  obtain ⟨fn, fd, ps, h1, h2, h3, h4⟩ := F.ex
  exact px_call h1 hr h2 h3 h4 ha hg hdb he hpl
noncomputable def tyD : D → Option String
  | .none => some "NoneType"
  | .bool _ => some "bool"
  | .int _ => some "int"
  | .str _ => some "str"
  | .tuple _ => some "tuple"
  | .list _ => some "list"
  | _ => none
theorem tyOf_d {Z : List Addr} {H : Hp} {K : PySem.W.Frag} {d : D} {v : V} {t : String} (r : Rp Z H d v) (h : tyD d = some t) : TyOf K H v (.type t) := by
  cases r with
  | none => cases h; exact .non
  | bool b => cases h; exact .bl b
  | int i => cases h; exact .int i
  | str x _ => cases h; exact .str x
  | tup _ ha _ => cases h; exact .tup ha
  | lst _ ha _ => cases h; exact .lst ha
theorem RE.ty {O P : List Addr} {H₀ H : Hp} {K : PySem.W.Frag} {x : DV} {v : V} {t : String} (r : RE O P H₀ H x v) (h : (asQ x).bind tyD = some t) : TyOf K H v (.type t) := by
  cases x with
  | d y => exact tyOf_d (show Rp (P ++ O) H y v from r) h
  | ob C fs => cases h
  | tbl kvs => cases h
  | ex q => cases h
  | own xs =>
    obtain ⟨a, vs, rfl, _, ha, _⟩ := r
    cases h; exact .lst ha
  | new xs =>
    obtain ⟨a, vs, rfl, _, ha, _⟩ := r
    cases h; exact .lst ha
  | scr K ns => cases h
end
structure CompSc (sc : Scope) (N : List Str) (k : Nat) (js : List Nat) (N' : List Str) (scope : Scope) : Prop where
  kind : scope.kind = .function
  nocell : ∀ y ∈ scope.names, y.2 ≠ .cell
  loc : ∀ y ∈ scope.names, y.2 = .local → scope.names.lookup y.1 = some .local
  free : ∀ y ∈ scope.names, y.2 = .free → sc.names.lookup y.1 = some .cell ∨ sc.names.lookup y.1 = some .free
  len : N'.length = k + js.length
  at' : ((List.range js.length).all fun i => match js[i]?, N'[k + i]? with
    | some j, some x => decide (N[j]? = some x ∧ (sc.names.lookup x = some .cell ∨ sc.names.lookup x = some .free) ∧ scope.names.lookup x = some .free)
    | _, _ => false) = true
theorem CompSc.fit {X : Cx} {N : List Str} {k : Nat} {js : List Nat} {N' : List Str} {sc scope : Scope} (S : CompSc sc N k js N' scope) (h1 : X.env.scope = sc := by rfl) (h2 : X.N = N := by rfl) : CompFit X k js N' scope := by
  subst h1 h2
  refine ⟨S.kind, S.nocell, S.loc, S.free, S.len, fun i x h hi => ?_⟩
  have hlt : i < N'.length := (List.getElem?_eq_some_iff.mp h).1
  rw [S.len] at hlt
  have q := List.all_eq_true.mp S.at' (i - k) (List.mem_range.mpr (by lia))
  have e : k + (i - k) = i := by lia
  rw [e, h] at q
  cases ej : js[i - k]? with
  | none => rw [ej] at q; cases q
  | some j =>
    rw [ej] at q
    obtain ⟨a, b, c⟩ := of_decide_eq_true q
    exact ⟨j, rfl, a, b, c⟩
theorem sub_name {k : Nat} {js : List Nat} {i : Nat} (hi : i < k) (δ : DS) (d : D) (δ1 : DS) (h : sName i d (subD k js δ) = some δ1) : Sub (subD k js δ) δ1 := by
  cases h
  refine sub_set (.inl ?_)
  unfold subD
  rw [List.getElem?_append_left (by simpa using hi), List.getElem?_replicate, if_pos hi]
theorem Has.mono {P : Program} {w : World} {K : PySem.W.Frag} {mg : Str → Option Value} {base : Heap} {j k : Nat} {x : Str} {n : Nat} {fm : List DV → M DV} (h : Has P w K mg base j x n fm) (hj : j ≤ k) : Has P w K mg base k x n fm := by
  obtain ⟨fn, fd, ps, h1, h2, h3, h4⟩ := h.ex
  exact ⟨fn, fd, ps, h1.mono hj, h2, h3, h4⟩
noncomputable def Df (K : PySem.W.Frag) (mg : Str → Option Value) (x : Str) (st : Stmt) (ps : List Str) : Prop := ∃ f fd, Fun K x x st f fd ∧ mg x = some (.ref f) ∧ Binds K fd ps []
theorem Df.has {P : Program} {w : World} {K : PySem.W.Frag} {mg : Str → Option Value} {base : Heap} {x : Str} {st : Stmt} {ps : List Str} {k n : Nat} {fm : List DV → M DV} (D : Df K mg x st ps)
    (h : ∀ f fd, Fun K x x st f fd → FnOk P w K mg base CX0 k f fd ps (sp0 n fm)) : Has P w K mg base k x n fm := by
  obtain ⟨f, fd, Fu, hm, hb⟩ := D
  exact ⟨f, fd, ps, h f fd Fu, hm, Fu.kp, hb⟩
theorem hu64 {A : Around} {k : Nat} (hr : Room k A) : A.units + 64 < cLine := by
  have := hr.un
  lia
theorem px_gi {X : Cx} {E : XK} {x : Str} {i : Int} {pos : Pos} (hm : ∃ t, X.mg x = some (.int i t)) (hg : Gl X x := by rfl) (hd : (x == ("__debug__" : Str)) = false := by decide) : PX X E (.Name x pos) (eC (.int i)) := by
  obtain ⟨t, h⟩ := hm
  exact px_gint hg h hd
end L3
set_option Elab.async false
set_option linter.all false
set_option maxRecDepth 100000
set_option maxHeartbeats 4000000
set_option autoImplicit false
namespace L3
open PySem PySem.Spec L2
open PyProof.Rows hiding St
theorem ObjOk.some {P : Program} {w : World} {H : Hp} {h : Heap} {a : Addr} {o : HO} (x : ObjOk P w H h a o) : ∃ u, h.get? a = some u := by
  cases o with
  | lst xs => obtain ⟨_, _, _, _, e⟩ := x; exact ⟨_, e⟩
  | tup xs => obtain ⟨_, _, _, u, e, _⟩ := x; exact ⟨u, e⟩
  | dK kvs => obtain ⟨_, _, _, _, u, _, _, e, _⟩ := x; exact ⟨u, e⟩
  | dT kvs => obtain ⟨_, _, _, _, u, _, _, e, _⟩ := x; exact ⟨u, e⟩
  | set S n => obtain ⟨u, _, _, _, e, _⟩ := x; exact ⟨u, e⟩
  | ins C dx fs => obtain ⟨_, _, _, e, _⟩ := x; exact ⟨_, e⟩
  | own y => exact x
  | xd fs => obtain ⟨_, ⟨u, _, _, e, _⟩, _⟩ := x; exact ⟨u, e⟩
  | rng lo hi => obtain ⟨_, _, _, e⟩ := x; exact ⟨_, e⟩
  | frz ob u => exact ⟨ob, x.1⟩
  | tbl ps => exact ⟨_, x⟩
  | met f y => exact ⟨_, x⟩
  | ext φ => exact x.2.1
structure Fly (P : Program) (w : World) (l : List Env) (s : Shared) (H : Hp) (cls : Value) (x : Addr) (H' : Hp) (B : Heap) (a0 : Value) (s' : Shared) : Prop where
  os : s'.os = s.os
  bare : AllBare s'.gens
  fly : Heap.FlyingW B l x cls a0 s'.heap
  trk : ∀ b u, H' b = some u → ∃ o, B.get? b = some o
  old : ∀ b o, s.heap.get? b = some o → H b = none → b ∉ frs l → B.get? b = some o
  all : ∀ b o, s.heap.get? b = some o → b ∉ frs l → ∃ o', B.get? b = some o'
  un : Un (frs l) [] H H' s.heap s'.heap
  hok : HOk P w H' s'.heap
noncomputable def CXR (P : Program) (w : World) : CXT := fun l H s E e s' => ∃ x cls dx H' B a0, e = .ref x ∧ Fly P w l s H cls x H' B a0 s' ∧ E cls dx H'
theorem Fly.free {P : Program} {w : World} {l : List Env} {s s' : Shared} {H H' : Hp} {cls a0 : Value} {x : Addr} {B : Heap} (F : Fly P w l s H cls x H' B a0 s') : H' x = none := by
  cases q : H' x with
  | none => rfl
  | some u =>
    obtain ⟨o, e⟩ := F.trk x u q
    rw [F.fly.2.1] at e; cases e
theorem Fly.go {P : Program} {w : World} {l : List Env} {s s' : Shared} {H H' : Hp} {cls a0 : Value} {x : Addr} {B h' : Heap} (F : Fly P w l s H cls x H' B a0 s') (f : Heap.FlyingW B l x cls a0 h') (u : s'.heap.UpToSlots h') : Fly P w l s H cls x H' B a0 { s' with heap := h' } := by
  have fr : ∀ b, b ∈ frs l → ∀ o, s'.heap.get? b = some o → ∃ sl, h'.get? b = some { o with slots := sl } := fun b hb o e => by
    obtain ⟨_, o', e', hd⟩ := F.fly.2.2.1.mem hb
    rw [e] at e'; cases e'
    exact u b o e hd
  refine ⟨F.os, F.bare, f, F.trk, F.old, F.all, ⟨fun b o e n hb _ => f.1 b o (F.old b o e n hb), fun b o e n hb hx => ?_, F.un.free, fun b o e hx => ?_, F.un.tups, F.un.frzs, F.un.tbls⟩, fun b v q => (F.hok b v q).stay (fun c o hc e => ?_) (fun _ q => q) fun _ _ q => q⟩
  · obtain ⟨sl, e1⟩ := F.un.slot b o e n hb hx
    obtain ⟨sl', e2⟩ := fr b hb _ e1
    exact ⟨sl', e2⟩
  · obtain ⟨o', e1⟩ := F.un.there b o e hx
    by_cases hb : b ∈ frs l
    · obtain ⟨sl, e2⟩ := fr b hb o' e1
      exact ⟨_, e2⟩
    · obtain ⟨o2, e2⟩ := F.all b o e hb
      exact ⟨o2, f.1 b o2 e2⟩
  · have ht : ∃ v', H' c = some v' := by
      rcases hc with z | z
      · exact ⟨v, z ▸ q⟩
      · exact ⟨_, z⟩
    obtain ⟨v', hv'⟩ := ht
    obtain ⟨o2, e2⟩ := F.trk c v' hv'
    have := F.fly.1 c o2 e2
    rw [e] at this; cases this
    exact f.1 c _ e2
theorem Fly.inv {X : Cx} {pins : List (Addr × Obj)} {σ : St} {s s' : Shared} {H H' : Hp} {cls a0 : Value} {x : Addr} {B : Heap} (I : Inv X pins σ H s) (F : Fly X.prog X.w X.stack s H cls x H' B a0 s') : Inv X pins σ H' s' :=
  I.call' (ch := []) F.os F.un F.hok F.bare fun b hb => absurd hb (by simp)
theorem xe_made {P : Program} {w : World} {K : PySem.W.Frag} {mg : Str → Option Value} {base : Heap} {N : List Str} {qual : Str} {scope : Scope} {f : Addr} {cd : Value} {A : Around} {outer : List Env} {s0 s : Shared} {H0 H : Hp} {E : XK} {pins : List (Addr × Obj)} {σ : St} {h1 : Heap} {e : Addr} {cls : Value} {vs : List Value}
    (I : Inv (cxOf (CXR P w) P w K mg base N qual scope f cd A outer s0 H0 E) pins σ H s) (hx : Heap.MadeExcOf s.heap h1 e cls vs) (hE : E cls none H) : (cxOf (CXR P w) P w K mg base N qual scope f cd A outer s0 H0 E).xe (.ref e) { s with heap := h1 } := by
  have hl : ∀ b, b ∈ frs (envOfC qual scope s0.heap.objs.size f cd :: outer) ↔ b = s0.heap.objs.size ∨ b ∈ frs outer := fun b => by
    show b ∈ s0.heap.objs.size :: frs outer ↔ _
    exact List.mem_cons
  have nL : ∀ b o, s0.heap.get? b = some o → b ≠ s0.heap.objs.size := fun b o q => Nat.ne_of_lt (Heap.lt_size q)
  have hst := I.stack
  have ff := PySem.W.funFrames_hide (as := frs (envOfC qual scope s0.heap.objs.size f cd :: outer)) hst fun en he a ha => List.mem_filterMap.mpr ⟨en, he, ha⟩
  refine wpAny_leaves_madeW (base := PySem.W.hideAll s.heap (frs (envOfC qual scope s0.heap.objs.size f cd :: outer))) (h := s.heap) I.ok.frames rfl (fun b o q => PySem.W.of_hideAll _ q) ff hx fun h2 t x1 x2 x3 x4 => ?_
  have kB : ∀ b o, s.heap.get? b = some o → b ∉ frs (envOfC qual scope s0.heap.objs.size f cd :: outer) → h2.get? b = some o := fun b o q n => x1.1 b o (PySem.W.hideAll_get _ q n)
  have trk : ∀ b u, H b = some u → b ∉ frs (envOfC qual scope s0.heap.objs.size f cd :: outer) := fun b u q hb => by
    have := I.stkFree b hb
    rw [q] at this; cases this
  have fr : ∀ b o, b ∈ frs outer → s.heap.get? b = some o → ∃ sl, h2.get? b = some { o with slots := sl } := fun b o hb q => by
    obtain ⟨_, o', e', hd⟩ := I.funs.mem hb
    rw [q] at e'; cases e'
    exact x4 b o (hx.keeps b o q) hd
  have out : ∀ b o, s0.heap.get? b = some o → b ∉ frs outer → b ∉ frs (envOfC qual scope s0.heap.objs.size f cd :: outer) := fun b o q n z => by
    rcases (hl b).mp z with z | z
    · exact nL b o q z
    · exact n z
  refine ⟨e, cls, none, H, _, _, rfl, ⟨I.os, I.bare, x1, fun b u q => ?_, fun b o q n hb => ?_, fun b o q hb => ?_, ⟨fun b o q n hb _ => ?_, fun b o q n hb _ => ?_, fun b o q n _ => I.base.free b o q n (by simp [cxOf]), fun b o q _ => ?_, I.base.tups, I.base.frzs, I.base.tbls⟩, fun b u q => (I.hok b u q).stay (fun c o hc r => ?_) (fun _ q => q) fun _ _ q => q⟩, hE⟩
  · obtain ⟨o, r⟩ := ObjOk.some (I.hok b u q)
    exact ⟨o, PySem.W.hideAll_get _ r (trk b u q)⟩
  · exact PySem.W.hideAll_get _ (I.base.keep b o q n hb (by simp [cxOf])) (out b o q hb)
  · obtain ⟨o', r⟩ := I.base.there b o q (by simp [cxOf])
    exact ⟨o', PySem.W.hideAll_get _ r (out b o q hb)⟩
  · exact kB b o (I.base.keep b o q n hb (by simp [cxOf])) (out b o q hb)
  · obtain ⟨sl, r⟩ := I.base.slot b o q n hb (by simp [cxOf])
    obtain ⟨sl', r'⟩ := fr b _ hb r
    exact ⟨sl', r'⟩
  · obtain ⟨o', r⟩ := I.base.there b o q (by simp [cxOf])
    by_cases hb : b ∈ frs outer
    · obtain ⟨sl, r'⟩ := fr b o' hb r
      exact ⟨_, r'⟩
    · exact ⟨o', kB b o' r (out b o q hb)⟩
  · have ht : ∃ v, H c = some v := by
      rcases hc with z | z
      · exact ⟨u, z ▸ q⟩
      · exact ⟨_, z⟩
    obtain ⟨v, hv⟩ := ht
    exact kB c o r (trk c v hv)
noncomputable def bmV : List Value := [.type "ValueError", .type "Exception", .type "BaseException", .type "object"]
structure Xc (K : PySem.W.Frag) (mg : Str → Option Value) (x : Str) (C : Addr) : Prop where
  bound : mg x = some (.ref C)
  ex : PySem.W.excIn K C bmV "ValueError.__new__" = true
theorem exc_obj {K : PySem.W.Frag} {h : Heap} {C : Addr} {bmB : List Value} {nw : String} (X : K.In h) (q : PySem.W.excIn K C bmB nw = true) :
    ∃ bm N nm qn bs hdct sn sub ab col dd k0 k1 k2 k3 k5 mN, h.get? C = some (excClassObj nm qn C N bs bm hdct sn sub ab col dd k0 k1 k2 k3 k5 nw) ∧ h.Ns N mN ∧ mN "__init__" = none ∧ OwnTail h bmB bm := by
  unfold PySem.W.excIn at q
  cases ho : K.lookup C with
  | none => rw [ho] at q; cases q
  | some ob =>
    rw [ho] at q
    split at q
    · rename_i dd cd sl eo
      cases eo
      split at q
      · rename_i C' bm k0 k1 k2 k3 n k5 hm hs
        rw [Bool.and_eq_true, Bool.and_eq_true, Bool.and_eq_true, Bool.and_eq_true, Bool.and_eq_true] at q
        obtain ⟨⟨⟨⟨⟨q1, q2⟩, q3⟩, q4⟩, q5⟩, q6⟩ := q
        have q1 := beq_iff_eq.mp q1
        have q2 := beq_iff_eq.mp q2
        have q7 : PySem.W.nsIn K cd.ns "__init__" = some none := beq_iff_eq.mp q6
        obtain ⟨nm, bs, mro, ns, qn, hd, sn, sub, ab, col, del⟩ := cd
        simp only at hm q3 q5 q7
        have q3 : del = false := by simpa using q3
        subst q1 q2 hm q3
        have hsl : sl = #[k0, k1, k2, k3, some (.builtin n), k5] := Array.toList_inj.mp (by rw [hs])
        subst hsl
        refine ⟨bm, ns, nm, qn, bs, hd, sn, sub, ab, col, dd, k0, k1, k2, k3, k5, h.nsMap ns, ?_, ?_, ?_, ?_⟩
        · exact X _ _ ho
        · exact .of_isNs (PySem.W.isNs_of_in X q5)
        · exact PySem.W.nsMap_none_of_in X q5 q7
        · exact PySem.W.tail_of_in X q4
      · cases q
    · cases q
section
variable {X : Cx} {E : XK} {x : Str} {C : Addr} {np cpos pos p2 : Pos} {z : Str} {j : Nat}
noncomputable def Makes (X : Cx) (E : XK) : Prop := X.A.handled = none ∧ ∀ (pins : List (Addr × Obj)) (σ : St) (H : Hp) (s : Shared) (h1 : Heap) (e : Addr) (cls : Value) (vs : List Value), Inv X pins σ H s → Heap.MadeExcOf s.heap h1 e cls vs → E cls none H → X.xe (.ref e) { s with heap := h1 }
theorem ps_raise (mk : Makes X E) (O : Xc X.K X.mg x C) (hg : Gl X x := by rfl) (hd : (x == ("__debug__" : Str)) = false := by decide) {jj} :
    PS X (.Raise (some (.Call (.Name x np) [.Constant (.str z) jj p2] [] cpos)) none pos) (fun _ _ H => E (.ref C) none H) := by
  intro pins s σ H D I h
  obtain ⟨bm, N, nm, q, bs, hdct, sn, sub, ab, col, dd, k0, k1, k2, k3, k5, mN, hC, hN, hni, T⟩ := exc_obj I.ok.mod.kin O.ex
  refine wpAny_Raise_call_subT (C := C) (nm := nm) (q := q) (N := N) (bs := bs) (bm := bm) (hdct := hdct) (sn := sn) (sub := sub) (ab := ab) (col := col) (dd := dd) (k0 := k0) (k1 := k1) (k2 := k2) (k3 := k3) (k5 := k5) (mN := mN)
    PySem.F.excBase_ValueError (T.hasType PySem.F.excBase_ValueError.hasBase) mk.1 rfl hni (ld_glob I hg O.bound ⟨rfl, ?_⟩ hd)
  have hst : starEach [(.Constant (.str z) jj p2 : Expr)] X.env = (false, eval (.Constant (.str z) jj p2) X.env) :: starEach [] X.env := rfl
  rw [hst]
  refine Calls.evalArgs_plain ?_
  refine Calls.spliced_cons (thn (pe_str (pos := p2) (j := jj) (x := z) pins s σ H (fun _ H1 => H1 = H) I rfl) fun u s1 ⟨v, H1, I1, _, e1⟩ => Calls.spliced_nil ?_)
  subst e1
  refine ⟨rfl, by show 1 ≤ sizeLine; decide, I1.bk _ _ hC, hN.keeps I1.bk, T.keeps I1.bk, fun h1 e hm => mk.2 pins σ H1 s1 h1 e _ _ I1 hm h⟩
end
end L3
set_option Elab.async false
set_option linter.all false
set_option maxRecDepth 100000
set_option maxHeartbeats 4000000
set_option autoImplicit false
namespace L3
open PySem PySem.Spec L2
open PyProof.Rows hiding St
open PySem.W (Looks)
theorem isi_exc {prog : Program} {w : World} {A : Around} {E : Value → Shared → Prop} {s : Shared} {Q : Value → Shared → Prop} {K : PySem.W.Frag} {e C : Addr} {oe : Obj} {c : Value} (he : s.heap.get? e = some oe) (hc : oe.cls = .ref C) (X : K.In s.heap)
    (q : PySem.W.kitOne K (.ref C) c = some true) (h : Q (.bool true) s) : wpAny (model prog w) A (call (.builtin "isinstance") [.ref e, c]) Q E s := by
  refine call_isinstance_of ?_ (by intro z; cases z)
  unfold Builtin.«isinstance.nested»
  have LT : Looks (model prog w) s.heap (typeOf (.ref e)) (.ref C) := hc ▸ (Looks.ld he).andThen .now
  refine wpAny_bind (LT.at ?_)
  by_cases k : (Value.ref C == c) = true
  · rw [if_pos k]
    repeat (first | refine wpAny_pure ?_ | refine wpAny_rule ?_ | refine wpAny_bind ?_)
    exact h
  · rw [if_neg k]
    have q' : PySem.W.kitCls K (.ref C) c = some true := by
      unfold PySem.W.kitOne at q
      rw [if_neg k] at q; exact q
    obtain ⟨hty, his, hsub⟩ := PySem.W.kit_cls (M := model prog w) X q'
    have LI : Looks (model prog w) s.heap (isInstance (.ref e) c) true := LT.andThen hsub
    refine wpAny_bind (hty.at ?_)
    rw [if_pos (by decide)]
    refine wpAny_bind (wpAny_bind (m := isType c) (his.at ?_))
    refine wpAny_bind (m := isInstance (.ref e) c) (LI.at ?_)
    exact wpAny_pure (a := true) (wpAny_pure h)
theorem inv_gone {X : Cx} {pins : List (Addr × Obj)} {σ : St} {H : Hp} {s : Shared} {h' : Heap} {m' : Str → Option Value} {t : Nat} (I : Inv X pins σ H s) (hn : h'.Ns X.env.locals m') (hs : Heap.SameBut X.env.locals s.heap h') :
    Inv X pins (List.replicate σ.length none) H { s with heap := h', toks := t } := by
  have neL : ∀ b o, X.s₀.heap.get? b = some o → b ≠ X.env.locals := fun b o e => Nat.ne_of_lt (Nat.lt_of_lt_of_le (Heap.lt_size e) I.ok.above)
  refine ⟨I.ok, I.os, I.bare, ⟨fun b o e n hb hx => ?_, fun b o e n hb hx => ?_, I.base.free, fun b o e hx => ?_, I.base.tups, I.base.frzs, I.base.tbls⟩, ⟨m', hn, fun i y v _ e2 _ => ?_⟩, fun y c e => ?_, I.free, I.freeC, fun p hp => ?_, fun b o e => (I.hok b o e).stay (fun c u hc q => (hs.2 c ?_).trans q) (fun _ q => q) fun _ _ q => q, by simpa using I.len⟩
  · exact (hs.2 b (neL b o e)).trans (I.base.keep b o e n hb hx)
  · obtain ⟨sl, q⟩ := I.base.slot b o e n hb hx
    exact ⟨sl, (hs.2 b (neL b o e)).trans q⟩
  · obtain ⟨o', q⟩ := I.base.there b o e hx
    exact ⟨o', (hs.2 b (neL b o e)).trans q⟩
  · rw [List.getElem?_replicate] at e2
    split at e2 <;> cases e2
  · obtain ⟨v, z⟩ := I.cell y c e
    exact ⟨v, z.sameBut hs (I.cne y c e)⟩
  · obtain ⟨e, n, ne, nf, d⟩ := I.pin p hp
    exact ⟨(hs.2 p.1 ne).trans e, n, ne, nf, d⟩
  · rintro rfl
    rcases hc with z | z
    · rw [← z, I.free] at e; cases e
    · rw [I.free] at z; cases z
noncomputable abbrev Cx.tried (X : Cx) (pn : List (Addr × Obj)) (W : Value → Shared → Prop) : Cx := { X with pn := X.pn ++ pn, xe := W }
noncomputable abbrev Cx.caught (X : Cx) (e : Addr) (pn : List (Addr × Obj)) (W : Value → Shared → Prop) : Cx := { X with A := X.A.mark (some (.ref e)), calm := false, pn := X.pn ++ pn, xe := W }
section
variable {X : Cx} {pins pn : List (Addr × Obj)} {σ : St} {H : Hp} {s : Shared} {W : Value → Shared → Prop} {e : Addr}
theorem inv_tried (I : Inv X pins σ H s) (W : Value → Shared → Prop) : Inv (Cx.tried X pins W) [] σ H s :=
  ⟨⟨I.ok.mod, I.ok.kind, I.ok.glob, I.ok.blt, I.ok.above, I.ok.inj, I.ok.has, I.ok.cab, I.ok.hd, I.ok.frames, I.ok.stk, I.ok.exf, I.ok.bs, I.ok.bsz, I.ok.noex, I.ok.exfs, I.ok.funs, I.ok.frf⟩,
    I.os, I.bare, I.base, I.loc, I.cell, I.free, I.freeC, fun p hp => I.pin p (by simpa using hp), I.hok, I.len⟩
theorem inv_untried {pins' : List (Addr × Obj)} (I : Inv (Cx.tried X pn W) pins' σ H s) : Inv X pn σ H s :=
  ⟨⟨I.ok.mod, I.ok.kind, I.ok.glob, I.ok.blt, I.ok.above, I.ok.inj, I.ok.has, I.ok.cab, I.ok.hd, I.ok.frames, I.ok.stk, I.ok.exf, I.ok.bs, I.ok.bsz, I.ok.noex, I.ok.exfs, I.ok.funs, I.ok.frf⟩,
    I.os, I.bare, I.base, I.loc, I.cell, I.free, I.freeC, fun p hp => I.pin p (List.mem_append_left _ hp), I.hok, I.len⟩
theorem sp_untried {pins' : List (Addr × Obj)} {D : Ends} {f : Flow} {s' : Shared} (h : SP (Cx.tried X pn W) pins' D f s') : SP X pn D f s' := by
  cases f with
  | next => obtain ⟨σ', H', I, q⟩ := h; exact ⟨σ', H', inv_untried I, q⟩
  | brk => obtain ⟨σ', H', I, q⟩ := h; exact ⟨σ', H', inv_untried I, q⟩
  | cont => obtain ⟨σ', H', I, q⟩ := h; exact ⟨σ', H', inv_untried I, q⟩
  | ret u => obtain ⟨v, σ', H', I, r, q⟩ := h; exact ⟨v, σ', H', inv_untried I, r, q⟩
theorem inv_caught (I : Inv X pins σ H s) (W : Value → Shared → Prop) (e : Addr) (hm : (X.A.mark (some (.ref e))).frames = X.A.frames := by rfl) : Inv (Cx.caught X e pins W) [] σ H s :=
  ⟨⟨I.ok.mod, I.ok.kind, I.ok.glob, I.ok.blt, I.ok.above, I.ok.inj, I.ok.has, I.ok.cab, (fun z => nomatch z), hm.trans I.ok.frames, I.ok.stk, I.ok.exf, I.ok.bs, I.ok.bsz, I.ok.noex, I.ok.exfs, I.ok.funs, I.ok.frf⟩,
    I.os, I.bare, I.base, I.loc, I.cell, I.free, I.freeC, fun p hp => I.pin p (by simpa using hp), I.hok, I.len⟩
theorem inv_uncaught {p : Addr × Obj} {pins' : List (Addr × Obj)} (ok : X.Ok) (I : Inv (Cx.caught X e (p :: pn) W) pins' σ H s) : Inv X pn σ H s :=
  ⟨ok, I.os, I.bare, I.base, I.loc, I.cell, I.free, I.freeC, fun p hp => I.pin p (List.mem_append_left _ (by
    show p ∈ X.pn ++ _ :: pn
    rcases List.mem_append.mp hp with z | z
    · exact List.mem_append_left _ z
    · exact List.mem_append_right _ (List.mem_cons_of_mem _ z))), I.hok, I.len⟩
end
section
variable {X : Cx} {E : XK} {body : List Stmt} {F : DS → M Out} {cn n : Str} {C : Addr} {i : Nat} {ex : Expr} {np hpos rpos pos : Pos} {k : Bool}
end
end L3
set_option Elab.async false
set_option linter.all false
set_option maxRecDepth 100000
set_option maxHeartbeats 4000000
set_option autoImplicit false
namespace L3
open PySem PySem.Spec L2
open PyProof.Rows hiding St
section
variable {X : Cx} {e C : Addr} {oe : Obj} {i : Nat} {n y : Str} {p p1 p2 pos : Pos} {c : Value}
noncomputable def tEx (i : Nat) (e : Addr) (k : Bool) : TE := fun σ H Q => σ[i]? = some (some (.ref e)) ∧ Q (.bl k) H
theorem pe_isX (hp : (e, oe) ∈ X.pn) (hc : oe.cls = .ref C) (q : PySem.W.kitOne X.K (.ref C) c = some true) (hm : X.mg "isinstance" = none) (hn : PE X (.Name n p1) (tVar i))
    (hy : ∀ (pins : List (Addr × Obj)) (s : Shared) (σ : St) (H : Hp) (Q : Value → Shared → Prop), Inv X pins σ H s → Q c s → wpAny (model X.prog X.w) X.A (eval (.Name y p2) X.env) Q X.xe s) (hg : Gl X "isinstance" := by rfl)
    (he : starEach [.Name n p1, .Name y p2] X.env = (false, eval (.Name n p1) X.env) :: starEach [.Name y p2] X.env := by rfl) (he2 : starEach [(.Name y p2 : Expr)] X.env = (false, eval (.Name y p2) X.env) :: starEach [] X.env := by rfl)
    (hpl : (backTo pos (starEach [.Name y p2] X.env)).any (·.1) = false := by rfl) : PE X (.Call (.Name "isinstance" p) [.Name n p1, .Name y p2] [] pos) (tEx i e true) := by
  intro pins s σ H Q I h
  refine wpAny_Call_Name_kw (ld_blt I hg hm bt_isinstance ?_)
  refine PyProof.Rows.callWith_builtin1 (PyProof.Rows.spliced_more (thn (hn pins s σ H (fun v H1 => v = .ref e ∧ H1 = H) I ⟨.ref e, h.1, rfl, rfl⟩) fun u s1 ⟨v, H1, I1, r1, ev, eH⟩ => PyProof.Rows.spliced_more (hy pins s1 σ H1 _ I1 ?_) he2) he) he hpl
  subst ev eH
  cases r1
  refine PyProof.Rows.spliced_none ?_
  obtain ⟨g, _⟩ := I1.pin _ (List.mem_append_left _ hp)
  exact isi_exc (K := X.K) g hc I1.kIn q ⟨.bl true, H1, I1, rfl, h.2⟩
theorem pe_isT {T : String} (hp : (e, oe) ∈ X.pn) (hc : oe.cls = .ref C) (q : PySem.W.kitOne X.K (.ref C) (.type T) = some true) (hm : X.mg "isinstance" = none) (hmy : X.mg y = none) (hv : bootBuiltins y = some (.type T)) (hn : PE X (.Name n p1) (tVar i)) (hg : Gl X "isinstance" := by rfl) (hgy : Gl X y := by rfl) (hnm : y ≠ "__name__" := by decide) (hd : (y == ("__debug__" : Str)) = false := by decide)
    (he : starEach [.Name n p1, .Name y p2] X.env = (false, eval (.Name n p1) X.env) :: starEach [.Name y p2] X.env := by rfl) (he2 : starEach [(.Name y p2 : Expr)] X.env = (false, eval (.Name y p2) X.env) :: starEach [] X.env := by rfl)
    (hpl : (backTo pos (starEach [.Name y p2] X.env)).any (·.1) = false := by rfl) : PE X (.Call (.Name "isinstance" p) [.Name n p1, .Name y p2] [] pos) (tEx i e true) :=
  pe_isX hp hc q hm hn (fun _ _ _ _ _ I h => ld_blt I hgy hmy hv h hnm hd) hg he he2 hpl
theorem passR0 {P : Program} {w : World} : Passes (CXR P w) X E0 := fun _ _ _ _ _ _ _ ⟨_, _, _, _, _, _, _, _, h⟩ => h.elim
end
noncomputable def spI (C CB : Addr) (good : Int → Int → Bool) (f1 f2 : Str) : Sp := fun vs H Q E => ∃ p dx m c, vs = [.ref p, .int m, .int c] ∧ H p = some (.ins C dx []) ∧
  ∀ H1, Same H H1 → if good m c = true then Q .non (upd (upd H1 p (.ins C dx (putF f1 (.int m) []))) p (.ins C dx (putF f2 (.int c) (putF f1 (.int m) [])))) else E (.ref CB) none H1
structure Hs (P : Program) (w : World) (K : PySem.W.Frag) (mg : Str → Option Value) (base : Heap) (x : Str) (C CB : Addr) (good : Int → Int → Bool) (f1 f2 : Str) : Prop where
  ex : ∃ f fd ps, Mk K C f ∧ FnOk P w K mg base (CXR P w) 1 f fd ps (spI C CB good f1 f2) ∧ Binds K fd ps [] ∧ mg x = some (.ref C)
noncomputable def mkH (C CB : Addr) (good : Int → Int → Bool) (f1 f2 : Str) (xs : List DV) : M DV := match xs with
  | [.d (.int m), .d (.int c)] => if good m c = true then rt (.ob C [(f1, .int m), (f2, .int c)]) else some (.error (.ref CB))
  | _ => none
theorem putF2 {f1 f2 : Str} (h : f1 ≠ f2) (v u : V) : putF f2 u (putF f1 v []) = [(f1, v), (f2, u)] := by
  show (if f1 = f2 then _ else _) = _
  rw [if_neg h]; rfl
section
variable {X : Cx} {E : XK} {e : Expr} {es : List Expr} {pos p : Pos} {fr : DS → M (List DV)}
theorem px_make {x : Str} {C CB : Addr} {good : Int → Int → Bool} {f1 f2 : Str} (h : Hs X.prog X.w X.K X.mg X.base x C CB good f1 f2) (hf : f1 ≠ f2) (hr : Room 2 X.A) (pass : Passes (CXR X.prog X.w) X E) (ha : PAs X E (e :: es) fr) (hg : Gl X x := by rfl) (hdb : (x == ("__debug__" : Str)) = false := by decide)
    (he : starEach (e :: es) X.env = (false, eval e X.env) :: starEach es X.env := by rfl) (hpl : (backTo pos (starEach es X.env)).any (·.1) = false := by rfl) : PX X E (.Call (.Name x p) (e :: es) [] pos) (eCb (mkH C CB good f1 f2) fr) := by
  obtain ⟨f, fd, ps, hM, hF, hb, hm⟩ := h.ex
  refine PE.mono (pe_make hM hF hr hg hm hb .nil pass ha hdb he hpl) fun σ H Q q => tA_bd (g := fun _ => mkH C CB good f1 f2) q fun O P δ xs r vs H1 rs rs1 s1 rx e q => ?_
  unfold mkH at e
  split at e
  · rename_i m c
    cases rx with
    | cons r1 rr =>
      cases rr with
      | cons r2 rr =>
        cases rr
        cases r1
        cases r2
        intro x dx nx ndx ne
        refine ⟨x, dx, m, c, rfl, upd_same, fun H2 s2 => ?_⟩
        have sH : Same H1 H2 := fun b o q => s2 b o (by rw [upd_ne (ne_of_none q nx), upd_ne (ne_of_none q ndx)]; exact q)
        split at e
        · rename_i hgood
          rw [if_pos hgood]
          cases e
          refine ⟨rfl, q _ _ (fun b o q => ?_) ⟨x, dx, _, rfl, fun z => ?_, upd_same, ?_⟩⟩
          · rw [upd_ne (ne_of_none q nx), upd_ne (ne_of_none q nx)]; exact sH b o q
          · obtain ⟨o, q⟩ := rs1.dom x z
            rw [nx] at q; cases q
          · rw [putF2 hf]
            exact .cons ⟨rfl, .int m⟩ (.cons ⟨rfl, .int c⟩ .nil)
        · rename_i hgood
          rw [if_neg hgood]
          cases e
          exact q none H2 sH
  · cases e
end
end L3
set_option Elab.async false
set_option linter.all false
set_option maxRecDepth 100000
set_option maxHeartbeats 4000000
set_option autoImplicit false
namespace L3
open PySem PySem.Spec L2
open PyProof.Rows hiding St
theorem pass_on {P : Program} {w : World} {K : PySem.W.Frag} {mg : Str → Option Value} {base : Heap} {N : List Str} {qual : Str} {scope : Scope} {f : Addr} {cd : Value} {A : Around} {outer : List Env} {s0 : Shared} {H0 : Hp} {E : XK} :
    Passes (CXR P w) (cxOf (CXR P w) P w K mg base N qual scope f cd A outer s0 H0 E) E := by
  intro pins σ H s e s' I cx
  obtain ⟨x, cls, dx, H', B, a0, rfl, Fl, hE⟩ := cx
  have hl : ∀ b, b ∈ frs (envOfC qual scope s0.heap.objs.size f cd :: outer) ↔ b = s0.heap.objs.size ∨ b ∈ frs outer := fun b => by
    show b ∈ s0.heap.objs.size :: frs outer ↔ _
    exact List.mem_cons
  have out : ∀ b o, s0.heap.get? b = some o → b ∉ frs outer → b ∉ frs (envOfC qual scope s0.heap.objs.size f cd :: outer) := fun b o q n z => by
    rcases (hl b).mp z with z | z
    · exact Nat.ne_of_lt (Heap.lt_size q) z
    · exact n z
  have Fl : Fly P w (envOfC qual scope s0.heap.objs.size f cd :: outer) s H cls x H' B a0 s' := Fl
  refine wpAny_leaves_onW (L := s0.heap.objs.size) I.ok.frames rfl Fl.fly fun h2 f2 u => ?_
  have fr : ∀ b o, b ∈ frs outer → s'.heap.get? b = some o → ∃ sl, h2.get? b = some { o with slots := sl } := fun b o hb q => by
    obtain ⟨_, o', e', hd⟩ := Fl.fly.2.2.1.mem (show b ∈ frs (envOfC qual scope s0.heap.objs.size f cd :: outer) from (hl b).mpr (.inr hb))
    rw [q] at e'; cases e'
    exact u b o q hd
  have old : ∀ b o, s0.heap.get? b = some o → H0 b = none → b ∉ frs outer → B.get? b = some o := fun b o q n hb =>
    Fl.old b o (I.base.keep b o q n hb (by simp [cxOf])) (I.base.free b o q n (by simp [cxOf])) (out b o q hb)
  have all : ∀ b o, s0.heap.get? b = some o → b ∉ frs outer → ∃ o', B.get? b = some o' := fun b o q hb => by
    obtain ⟨o', r⟩ := I.base.there b o q (by simp [cxOf])
    exact Fl.all b o' r (out b o q hb)
  refine ⟨x, cls, dx, H', B, a0, rfl, ⟨Fl.os.trans I.os, Fl.bare, f2, Fl.trk, old, all, ⟨fun b o q n hb _ => f2.1 b o (old b o q n hb), fun b o q n hb _ => ?_, fun b o q n _ => ?_, fun b o q _ => ?_, fun b xs q => Fl.un.tups b xs (I.base.tups b xs q), fun b o xs q => Fl.un.frzs b o xs (I.base.frzs b o xs q), fun b ps q => ?_⟩, fun b v q => (Fl.hok b v q).stay (fun c o hc r => ?_) (fun _ q => q) fun _ _ q => q⟩, hE⟩
  · obtain ⟨sl, r⟩ := I.base.slot b o q n hb (by simp [cxOf])
    obtain ⟨sl', r'⟩ := Fl.un.slot b _ r (I.base.free b o q n (by simp [cxOf])) ((hl b).mpr (.inr hb)) (by simp)
    obtain ⟨sl2, r2⟩ := fr b _ hb r'
    exact ⟨sl2, r2⟩
  · obtain ⟨o', r⟩ := I.base.there b o q (by simp [cxOf])
    exact Fl.un.free b o' r (I.base.free b o q n (by simp [cxOf])) (by simp)
  · obtain ⟨o', r⟩ := I.base.there b o q (by simp [cxOf])
    by_cases hb : b ∈ frs outer
    · obtain ⟨o2, r2⟩ := Fl.un.there b o' r (by simp)
      obtain ⟨sl, r3⟩ := fr b o2 hb r2
      exact ⟨_, r3⟩
    · obtain ⟨o2, r2⟩ := all b o q hb
      exact ⟨o2, f2.1 b o2 r2⟩
  · obtain ⟨m1, e1⟩ := I.base.tbls b ps q
    obtain ⟨m2, e2⟩ := Fl.un.tbls b _ e1
    exact ⟨m1 ++ m2, by rw [e2, Array.append_assoc]⟩
  · have ht : ∃ v', H' c = some v' := by
      rcases hc with z | z
      · exact ⟨v, z ▸ q⟩
      · exact ⟨_, z⟩
    obtain ⟨v', hv'⟩ := ht
    obtain ⟨o2, e2⟩ := Fl.trk c v' hv'
    have := Fl.fly.1 c o2 e2
    rw [r] at this; cases this
    exact f2.1 c _ e2
noncomputable def spX (n : Nat) (fm : List DV → M DV) : Sp := fun vs H Q E => vs.length = n ∧ ∃ O xs r, (∀ a, a ∈ O → ∃ o, H a = some o) ∧ REs O [] H H xs vs ∧ fm xs = some r ∧ Fn E O [] H H Q r
theorem fnX {P : Program} {w : World} {K : PySem.W.Frag} {mg : Str → Option Value} {base : Heap} {x qual : Str} {st : Stmt} {f : Addr} {fd : FuncData} {N ps : List Str} {k n : Nat} {F : DS → M Out} (Fu : Fun K x qual st f fd) (S : FnScope N ps (defScope st)) (hn : ps.length = n)
    (body : ∀ (cdv : Value) (A : Around) (outer : List Env) (s : Shared) (H : Hp) (E : XK), Room k (A.deeper (envOfC qual (defScope st) s.heap.objs.size f cdv)) →
      PSd (cxOf (CXR P w) P w K mg base N qual (defScope st) f cdv A outer s H E) E (defBody st) F) : FnOk P w K mg base (CXR P w) (k + 1) f fd ps (spX n (mir N F)) := by
  obtain ⟨oc, od, kV, doc, pm, an, cdv, ct, osl, rfl, lk, hcd⟩ := Fu.ex
  refine fn_of lk hcd S (fun vs H Q E h => h.1.trans hn.symm) fun A outer s H vs Q E hr hsp => ⟨_, body cdv A outer s H E hr, ?_⟩
  obtain ⟨_, O, xs, r, dom, rx, e, q⟩ := hsp
  rcases bd_cases e with ⟨o, e1, e2⟩ | ⟨c, e1, e2⟩
  · refine ⟨O, [], dst N xs, .ok o, RS.start dom rx, e1, ?_⟩
    cases o with
    | rt y =>
      cases e2
      intro v H1 H' P' k' s' _ _ ry
      obtain ⟨sH, ry'⟩ := ry.out k' s'
      exact q v H' sH ry'
    | nx δ =>
      cases e2
      intro σ' H' P' k' _
      exact q .non H' (fun b o e => k'.keep b o (by simp) e) .none
    | bk δ => cases e2
    | ct δ => cases e2
  · subst e2
    exact ⟨O, [], dst N xs, .error c, RS.start dom rx, e1, fun dx H' P' k' => q dx H' fun b o e => k'.keep b o (by simp) e⟩
structure HasX (P : Program) (w : World) (K : PySem.W.Frag) (mg : Str → Option Value) (base : Heap) (k : Nat) (x : Str) (n : Nat) (fm : List DV → M DV) : Prop where
  ex : ∃ fn fd ps, FnOk P w K mg base (CXR P w) k fn fd ps (spX n fm) ∧ mg x = some (.ref fn) ∧ PySem.W.keepIn K (.ref fn) = true ∧ Binds K fd ps []
theorem HasX.mono {P : Program} {w : World} {K : PySem.W.Frag} {mg : Str → Option Value} {base : Heap} {j k : Nat} {x : Str} {n : Nat} {fm : List DV → M DV} (h : HasX P w K mg base j x n fm) (hj : j ≤ k) : HasX P w K mg base k x n fm := by
  obtain ⟨fn, fd, ps, h1, h2, h3, h4⟩ := h.ex
  exact ⟨fn, fd, ps, h1.mono hj, h2, h3, h4⟩
theorem Df.hasX {P : Program} {w : World} {K : PySem.W.Frag} {mg : Str → Option Value} {base : Heap} {x : Str} {st : Stmt} {ps : List Str} {k n : Nat} {fm : List DV → M DV} (D : Df K mg x st ps)
    (h : ∀ f fd, Fun K x x st f fd → FnOk P w K mg base (CXR P w) k f fd ps (spX n fm)) : HasX P w K mg base k x n fm := by
  obtain ⟨f, fd, Fu, hm, hb⟩ := D
  exact ⟨f, fd, ps, h f fd Fu, hm, Fu.kp, hb⟩
noncomputable def gCallX (n : Nat) (fm : List DV → M DV) (xs : List DV) : M DV := bd (op (args xs)) fun ys => if ys.length = n then fm ys else none
section
variable {X : Cx} {E : XK} {e : Expr} {es : List Expr} {pos p np cpos p2 : Pos} {fr : DS → M (List DV)} {x : Str} {C : Addr} {z : Str} {jj : Nat}
theorem px_hasX {k n : Nat} {fm : List DV → M DV} (F : HasX X.prog X.w X.K X.mg X.base k x n fm) (hr : Room k X.A) (pass : Passes (CXR X.prog X.w) X E) (ha : PAs X E (e :: es) fr) (hg : Gl X x := by rfl) (hdb : (x == ("__debug__" : Str)) = false := by decide)
    (he : starEach (e :: es) X.env = (false, eval e X.env) :: starEach es X.env := by rfl) (hpl : (backTo pos (starEach es X.env)).any (·.1) = false := by rfl) :
    PX X E (.Call (.Name x p) (e :: es) [] pos) (eCb (gCallX n fm) fr) := by
  obtain ⟨fn, fd, ps, h1, h2, h3, h4⟩ := F.ex
  refine PE.mono (pe_call h1 hr hg h2 h3 h4 .nil pass ha hdb he hpl) fun σ H Q q => tA_bd (g := fun _ => gCallX n fm) q fun O P δ xs r vs H1 rs rs1 s1 rx e q => ?_
  obtain ⟨ys, e1, e2⟩ := bd_op e
  split at e2
  · rename_i hl
    have ry := REs.hand rs.dom s1 rx e1
    refine ⟨?_, P ++ O, ys, r, fun a ha => ?_, ?_, e2, ?_⟩
    · rw [List.append_nil, ← Paired.length ry]; exact hl
    · obtain ⟨o, e'⟩ := rs.dom a ha
      exact ⟨o, s1 a o e'⟩
    · rw [List.append_nil]; exact ry
    · cases r with
      | ok y => exact fun v H' s2 rv => q v H' s2 (rv.back s1)
      | error c => exact q
  · cases e2
theorem st_raise (mk : Makes X E) (O : Xc X.K X.mg x C) (hg : Gl X x := by rfl) (hd : (x == ("__debug__" : Str)) = false := by decide) :
    PSt X E (.Raise (some (.Call (.Name x np) [.Constant (.str z) jj p2] [] cpos)) none pos) (fun _ => some (.error (.ref C))) := PS.mono (ps_raise mk O hg hd) fun T σ H q => by
  obtain ⟨O', P, δ, r, rs, e, q⟩ := q
  cases e
  exact q none H P .refl
end
theorem makes_fn {P : Program} {w : World} {K : PySem.W.Frag} {mg : Str → Option Value} {base : Heap} {N : List Str} {qual : Str} {scope : Scope} {f : Addr} {cd : Value} {A : Around} {outer : List Env} {s0 : Shared} {H0 : Hp} {E : XK} {k : Nat}
    (hr : Room k (A.deeper (envOfC qual scope s0.heap.objs.size f cd))) : Makes (cxOf (CXR P w) P w K mg base N qual scope f cd A outer s0 H0 E) E := ⟨hr.hd, fun _ _ _ _ _ _ _ _ I hm hE => xe_made I hm hE⟩
end L3
set_option Elab.async false
set_option linter.all false
set_option maxRecDepth 100000
set_option maxHeartbeats 4000000
set_option autoImplicit false
namespace L3
open PySem PySem.Spec L2
open PyProof.Rows hiding St
open PySem.W (Looks)
open Builtin Builtin.ObjectAttr Builtin.Getset_descriptor
noncomputable def IsX (x D : Addr) (h : Heap) : Prop := ∃ o, h.get? x = some o ∧ o.cls = .ref D
section
variable {prog : Program} {w : World} {A : Around} {E : Value → Shared → Prop} {s : Shared} {K : PySem.W.Frag} {x D : Addr}
theorem IsX.ty {M : Model} {h : Heap} (I : IsX x D h) : Looks M h (typeOf (.ref x)) (.ref D) := by
  obtain ⟨o, e, c⟩ := I
  exact c ▸ (Looks.ld e).andThen .now
end
section
variable {X : Cx} {e C : Addr} {oe : Obj} {i : Nat} {n y : Str} {p p1 p2 pos : Pos} {c : Value} {b : Bool}
end
end L3
set_option Elab.async false
set_option linter.all false
set_option maxRecDepth 100000
set_option maxHeartbeats 4000000
namespace L2
open PySem PySem.Spec PyProof.Rows
section
variable {X : Cx} {k : Nat} {js : List Nat} {N' : List Str} {scope : Scope} {elt tg iter : Expr} {ifs : List Expr} {pos : Pos} {wi : TI} {g : TG} {tc : TT} {te : TE}
theorem comp_use {use : Option (Value → Sem Unit)} {Q' : Value → Shared → Prop} {ip : Pos} (S : CompFit X k js N' scope) (hc : X.calm = true) (hi : PI X tg iter wi)
    (hg : ∀ C s₂ H₂ fp, PG (compCx X N' scope C s₂ H₂ fp) tg g) (hf : ∀ C s₂ H₂ fp, PF (compCx X N' scope C s₂ H₂ fp) ifs tc) (he : ∀ C s₂ H₂ fp, PE (compCx X N' scope C s₂ H₂ fp) elt te)
    {pins : List (Addr × Obj)} {s : Shared} {σ : St} {H : Hp} {Q : VK} (I : Inv X pins σ H s) (h : tComp wi k js g tc te σ H Q)
    (hend : ∀ (D C : Addr) (s4 : Shared) (m : Str → Option Value), s4.heap.Ns C m → X.s₀.heap.objs.size ≤ C → C ≠ X.env.locals → (∀ x c, X.env.cells.lookup x = some c → c ≠ C) → (∀ p ∈ X.pn ++ pins, p.1 ≠ C) →
      (∀ h', Heap.SameBut C s4.heap h' → ∃ H5, Inv X pins σ H5 { s4 with heap := h' } ∧ H5 C = none ∧ Q (.ref D) H5) → compPost (model X.prog X.w) X.A X.xe use Q' (.ref D) C (.ok .next) s4)
    (hs : ∀ x, foldedSetIterable iter X.env x = pure x) :
    wpAny (model X.prog X.w) X.A (comprehension (.ListComp elt [⟨tg, iter, ifs, 0⟩] scope pos) scope X.env ip (newList []) false (eval iter X.env) use) Q' X.xe s := by
  refine wpAny_comprehension_free (use := use) rfl hs (closFor fun y hy hk => I.ok.has y.1 (S.free y hy hk)) S.kind S.loc ?_
  refine thn (hi pins s σ H _ I h) fun v s1 h1 => thn h1 fun itv s₂ h2 => ?_
  obtain ⟨it, fp, tn, J, H₂, rfl, I2, T, st2, f2, W, ⟨m0, w0⟩, turn⟩ := h2
  have lt2 : ∀ b ∈ fp, b < s₂.heap.objs.size := fun b hb => by obtain ⟨o, e, _⟩ := T.obj 0 _ st2 b hb; exact Heap.lt_size e
  refine wpAny_newObj_type (wpAny_newFunctionEnv S.nocell (by intro y hy; simp at hy) (fun h₁ hns₁ hsb₁ => ?_) S.kind)
  dsimp only at hns₁ hsb₁ ⊢
  generalize hH2 : s₂.heap.push { cls := .type "list", dict := none, data := .seq ([] : List Value).toArray } = G at hns₁ hsb₁ ⊢
  have hC : G.objs.size = s₂.heap.objs.size + 1 := by rw [← hH2, Heap.size_push]
  have hDC : s₂.heap.objs.size ≠ G.objs.size := by lia
  have hCle : s₂.heap.objs.size ≤ G.objs.size := by lia
  have old : ∀ b o, s₂.heap.get? b = some o → h₁.get? b = some o := fun b o e => hsb₁.extBut b o (addr_ne e hCle) (Heap.get?_push_of_some _ (hH2 ▸ Heap.get?_push_of_some _ e))
  have hacc : h₁.get? s₂.heap.objs.size = some { cls := .type "list", data := .seq ([] : List Value).toArray } := hsb₁.extBut _ _ hDC (Heap.get?_push_of_some _ (hH2 ▸ Heap.get?_push_size _ rfl))
  have hf2 : ∀ b ∈ fp, FpOk X pins H₂ b ∧ b < s₂.heap.objs.size := fun b hb => ⟨f2 b hb, lt2 b hb⟩
  have I0 : ∀ tk, Inv (compCx X N' scope G.objs.size s₂ H₂ fp) [] (subSt k js σ) H₂ { s₂ with heap := h₁, toks := tk } := fun tk => comp_start I2 S hCle hf2 old hns₁
  generalize hD : s₂.heap.objs.size = D at *
  have hDnone : ∀ {H' : Hp} {s' : Shared} {σ' : St} {pp : List (Addr × Obj)} {o : Obj}, Inv (compCx X N' scope G.objs.size s₂ H₂ fp) (pp ++ [(D, o)]) σ' H' s' → H' D = none ∧ s'.heap.get? D = some o := fun {H' s' σ' pp o} J => by
    have q := J.pin (D, o) (List.mem_append_right _ (List.mem_append_right _ (List.mem_singleton.mpr rfl)))
    exact ⟨q.2.1, q.1⟩
  have hDfs : D ∉ frs X.stack := fun z => by
    obtain ⟨_, o, ho, _⟩ := I2.stack.mem z
    exact addr_ne ho (Nat.le_of_eq hD) rfl
  have hDcell : ∀ x c, (compCx X N' scope G.objs.size s₂ H₂ fp).env.cells.lookup x = some c → c ≠ D := fun x c e z => by
    obtain ⟨v, q⟩ := I2.cell x c (closL_sub (fun d hd => by simp at hd) e)
    exact addr_lt q.lt (Nat.le_of_eq hD) z
  have stat : ∀ {H' : Hp} {pp : List (Addr × Obj)}, (∀ b ∈ fp, H' b = none) → (∀ p ∈ pp, p.1 = D) → ∀ b ∈ fp, FpOk (compCx X N' scope G.objs.size s₂ H₂ fp) pp H' b := fun {H' pp} hn hp b hb => by
    refine ⟨hn b hb, fun z => ?_, fun z => ?_, .inl hb, fun x c e => (hf2 b hb).1.2.2.2.2.1 x c (closL_sub (fun d hd => by simp at hd) e), fun p hp' z => ?_⟩
    · exact addr_lt (lt2 b hb) hCle z
    · rcases List.mem_cons.mp (I2.stkSub b z) with e | e
      · exact (hf2 b hb).1.2.1 e
      · exact (hf2 b hb).1.2.2.1 e
    · have e1 : p.1 = D := hp p (by simpa [compCx] using hp')
      exact addr_lt (lt2 b hb) (Nat.le_refl _) (z.symm.trans e1)
  have pinD : ∀ {σ' : St} {H' : Hp} {s' : Shared} {ys : List Value} {c : Nat}, Inv (compCx X N' scope G.objs.size s₂ H₂ fp) [] σ' H' s' → s'.heap.get? D = some { cls := .type "list", data := .seq ys.toArray c } → H' D = none →
      Inv (compCx X N' scope G.objs.size s₂ H₂ fp) [(D, { cls := .type "list", data := .seq ys.toArray c })] σ' H' s' := fun {σ' H' s' ys c} J e n => J.pins_of fun p hp => by
    have e1 := List.mem_singleton.mp hp
    subst e1
    exact ⟨e, n, hDC, hDfs, fun v z => by cases z⟩
  have loop : ∀ s₃ : Shared, (∃ tk, s₃ = { s₂ with heap := h₁, toks := tk }) → codeAny (model X.prog X.w) X.A (.compLoop (.ListComp elt [⟨tg, iter, ifs, 0⟩] scope pos) 0 (.ref it) (.ref D) (compCx X N' scope G.objs.size s₂ H₂ fp).env)
      (compPost (model X.prog X.w) X.A X.xe use Q' (.ref D) G.objs.size) s₃ := by
    rintro s₃ ⟨tk, rfl⟩
    refine comp_turns (fun n s' => ∃ i σ' H' xs ys c, Inv (compCx X N' scope G.objs.size s₂ H₂ fp) [] σ' H' s' ∧ tn i s'.heap ∧ (∀ b ∈ fp, H' b = none) ∧ H' D = none ∧ s'.heap.get? D = some { cls := .type "list", data := .seq ys.toArray c } ∧ Vals xs ys ∧ W i n σ' H' xs)
      ?_ m0 ⟨0, _, H₂, [], [], 0, I0 tk, T.keep _ _ _ st2 fun b hb o e => old b o e, fun b hb => (f2 b hb).1, I2.hok.fresh (by lia), hacc, .nil, w0⟩
    rintro n s' ⟨i, σ', H', xs, ys, c, J', st', fr', nD, eD, rv, w'⟩
    have J1 := pinD J' eD nD
    rcases turn i n σ' H' xs w' with ⟨stop, hz, fin⟩ | ⟨go, hz, step⟩
    · refine thn (T.done (compCx X N' scope G.objs.size s₂ H₂ fp) rfl rfl rfl hc i _ s' σ' H' _ J1 (stat fr' fun p hp => by rw [List.mem_singleton.mp hp]) st' stop) fun r s4 ⟨hr, J4⟩ => ?_
      subst hr
      obtain ⟨nD4, eD4⟩ := hDnone (pp := []) J4
      obtain ⟨mC, hnC, _⟩ := J4.loc
      refine hend D G.objs.size s4 mC hnC (by have := I2.sz; lia) (fun z => addr_lt (Nat.lt_of_lt_of_le I2.lt (by lia)) (Nat.le_refl G.objs.size) z.symm) (fun x c e z => ?_) (fun p hp z => ?_) fun h' hs' => ?_
      · obtain ⟨v, q⟩ := I2.cell x c e
        exact addr_lt (Nat.lt_of_lt_of_le q.lt (by lia)) (Nat.le_refl G.objs.size) z
      · exact addr_lt (Nat.lt_of_lt_of_le (Heap.lt_size (I2.pin p hp).1) (by lia)) (Nat.le_refl G.objs.size) z
      have keep4 : ∀ b o, b ≠ G.objs.size → s4.heap.get? b = some o → h'.get? b = some o := fun b o hb e => hs'.extBut b o hb e
      have hC4 : H' G.objs.size = none := J4.free
      have hun : Un (frs X.stack) fp H₂ (upd H' D (.lst xs)) s₂.heap h' := by
        have u := J4.base
        have neD : ∀ b o, s₂.heap.get? b = some o → b ≠ D := fun b o e => addr_ne e (Nat.le_of_eq hD)
        have neC : ∀ b o, s₂.heap.get? b = some o → b ≠ G.objs.size := fun b o e => addr_ne e (by rw [hD]; exact hCle)
        have neD' : ∀ b o, H₂ b = some o → b ≠ D := fun b o e => addr_lt (I2.hok.lt e) (Nat.le_of_eq hD)
        refine ⟨fun b o e n hb hx => keep4 b o (neC b o e) (u.keep b o e n hb hx), fun b o e n hb hx => ?_, fun b o e n hx => by rw [upd_ne (neD b o e)]; exact u.free b o e n hx, fun b o e hx => ?_,
          fun b xs e => by rw [upd_ne (neD' b _ e)]; exact u.tups b xs e, fun b o z e => by rw [upd_ne (neD' b _ e)]; exact u.frzs b o z e, fun b ps e => by rw [upd_ne (neD' b _ e)]; exact u.tbls b ps e⟩
        · obtain ⟨sl, q⟩ := u.slot b o e n hb hx
          exact ⟨sl, keep4 b _ (neC b o e) q⟩
        · obtain ⟨o', q⟩ := u.there b o e hx
          exact ⟨o', keep4 b _ (neC b o e) q⟩
      have hok4 : HOk X.prog X.w (upd H' D (.lst xs)) h' := by
        intro b u e
        by_cases hb : b = D
        · subst hb
          rw [upd_same] at e
          cases e
          exact ⟨hz, ys, c, rv, keep4 _ _ hDC eD4⟩
        · rw [upd_ne hb] at e
          have hnD : ∀ a o, H' a = some o → a ≠ D := fun a o e z => by rw [z, nD4] at e; cases e
          refine (J4.hok b u e).stay (fun a v ha q => keep4 a v ?_ q) (fun a q => by rw [upd_ne (hnD a _ q)]; exact q) fun a zs q => by rw [upd_ne (hnD a _ q)]; exact q
          rintro rfl
          rcases ha with z | z
          · rw [← z, hC4] at e; cases e
          · rw [hC4] at z; cases z
      refine ⟨upd H' D (.lst xs), I2.call' (s' := { s4 with heap := h' }) J4.os hun hok4 J4.bare (fun b hb => ?_), by rw [upd_ne (Ne.symm hDC)]; exact hC4, fin D nD4⟩
      exact ⟨(f2 b hb).2.2.2.1, (f2 b hb).2.1, (f2 b hb).2.2.2.2.1, (f2 b hb).2.2.2.2.2⟩
    · refine thn (T.item (compCx X N' scope G.objs.size s₂ H₂ fp) rfl rfl rfl hc i _ s' σ' H' NoX J1 (stat fr' fun p hp => by rw [List.mem_singleton.mp hp]) st' go) fun r s4 ⟨u, hr, h4⟩ => ?_
      subst hr
      refine thn h4 fun _ s5 ⟨x, H5, I5, r5, y5, st5, fr5⟩ => ?_
      have I5' := I5.pinned (stat fr5 fun p hp => by rw [List.mem_singleton.mp hp]) (T.obj _ _ st5)
      refine thn (hg _ _ _ _ _ s5 σ' H5 x u _ I5' r5 (step x H5 y5)) fun _ s6 ⟨σ6, H6, I6, q6⟩ => ?_
      refine thn (hf _ _ _ _ _ s6 σ6 H6 _ I6 q6) fun ok s7 ⟨H7, I7, q7⟩ => ?_
      have back : ∀ {σ8 : St} {H8 : Hp} {s8 : Shared}, Inv (compCx X N' scope G.objs.size s₂ H₂ fp) ([(D, { cls := .type "list", data := .seq ys.toArray c })] ++ pinsAt fp s5.heap) σ8 H8 s8 →
          Inv (compCx X N' scope G.objs.size s₂ H₂ fp) [] σ8 H8 s8 ∧ tn (i + 1) s8.heap ∧ (∀ b ∈ fp, H8 b = none) ∧ H8 D = none ∧ s8.heap.get? D = some { cls := .type "list", data := .seq ys.toArray c } := fun {σ8 H8 s8} J => by
        have pd := J.pin (D, { cls := .type "list", data := .seq ys.toArray c }) (List.mem_append_right _ (List.mem_append_left _ (List.mem_singleton.mpr rfl)))
        have pf : ∀ b ∈ fp, ∀ o, s5.heap.get? b = some o → s8.heap.get? b = some o ∧ H8 b = none := fun b hb o e => by
          have q := J.pin (b, o) (List.mem_append_right _ (List.mem_append_right _ (mem_pinsAt hb e)))
          exact ⟨q.1, q.2.1⟩
        refine ⟨J.pins_of fun p hp => absurd hp (by simp), T.keep _ _ _ st5 fun b hb o e => (pf b hb o e).1, fun b hb => ?_, pd.2.1, pd.1⟩
        obtain ⟨o, e, _⟩ := T.obj _ _ st5 b hb
        exact (pf b hb o e).2
      cases ok with
      | false =>
        simp only [Bool.false_eq_true, if_false] at q7 ⊢
        obtain ⟨m', hm, w7⟩ := q7
        obtain ⟨b1, b2, b3, b4, b5⟩ := back I7
        exact ⟨m', hm, i + 1, σ6, H7, xs, ys, c, b1, b2, b3, b4, b5, rv, w7⟩
      | true =>
        simp only [if_true] at q7 ⊢
        refine thn (he _ _ _ _ _ s7 σ6 H7 _ I7 q7) fun u8 s8 ⟨v8, H8, I8, r8, q8⟩ => ?_
        obtain ⟨m', hm, w8⟩ := q8
        obtain ⟨b1, b2, b3, b4, b5⟩ := back I8
        refine append_at b5 (fun h9 hs9 e9 => ?_) (by rw [List.size_toArray, ← rv.length]; exact Nat.le_of_lt hz)
        have I9 : Inv (compCx X N' scope G.objs.size s₂ H₂ fp) [] σ6 H8 { s8 with heap := h9 } := b1.turned (t' := s8.toks) (it := D) (fun b o hb e => (hs9.2 b hb).trans e) b4 hDC (.inr (by show s₂.heap.objs.size ≤ D; lia)) hDcell fun p hp => absurd (show p ∈ ([] : List (Addr × Obj)) from hp) (by simp)
        refine ⟨m', hm, i + 1, σ6, H8, xs ++ [v8], ys ++ [u8], c + 1, I9, T.keep _ _ _ b2 fun b hb o e => (hs9.2 b ?_).trans e, b3, b4, ?_, Vals.append rv (.cons r8 .nil), w8⟩
        · exact addr_lt (lt2 b hb) (Nat.le_refl _)
        · rw [e9, List.push_toArray]
  exact codeAny_compStart_list (loop _ ⟨_, rfl⟩) (T.self _ 0 _ _ _ (T.keep _ _ _ st2 fun b hb o e => old b o e) (loop _ ⟨_, rfl⟩))
theorem ps_setC {i : Nat} {y : Str} {py spos : Pos} (S : CompFit X k js N' scope) (hc : X.calm = true) (hN : X.N.Nodup) (hi : X.N[i]? = some y) (hx : X.env.scope.names.lookup y = some .local) (hit : PI X tg iter wi)
    (hg : ∀ C s₂ H₂ fp, PG (compCx X N' scope C s₂ H₂ fp) tg g) (hf : ∀ C s₂ H₂ fp, PF (compCx X N' scope C s₂ H₂ fp) ifs tc) (he : ∀ C s₂ H₂ fp, PE (compCx X N' scope C s₂ H₂ fp) elt te)
    (hsw : swapsWith (.ListComp elt [⟨tg, iter, ifs, 0⟩] scope pos) (some (.Name y py)) spos.line X.env = pure true) (hs : ∀ x, foldedSetIterable iter X.env x = pure x) :
    PS X (.Assign [.Name y py] (.ListComp elt [⟨tg, iter, ifs, 0⟩] scope pos) spos) (tAsg (tComp wi k js g tc te) (gName i)) := by
  intro pins s σ H D I h
  rw [exec_Assign_Name_used _ _ _ _ hsw]
  refine wpAny_bind (wpAny_standAt (wpAny_bind ?_))
  show wpAny _ X.A (do let _ ← comprehension (.ListComp elt [⟨tg, iter, ifs, 0⟩] scope pos) scope X.env _ (newList []) false (eval iter X.env) (some (assign (.Name y py) X.env))) _ _ s
  refine wpAny_bind (wpAny_mono (comp_use (use := some (assign (.Name y py) X.env)) (Q' := fun _ s' => SP X pins D .next s') S hc hit hg hf he I h (fun Dd C s4 m hn h0 h1 h2 h3 hfin => ?_) hs) (fun _ s' hq => wpAny_pure (wpAny_pure hq)) fun _ _ e => e)
  obtain ⟨H5, I5, n5, q5⟩ := hfin s4.heap (Heap.SameBut.refl _ _)
  show wpAny _ X.A (assign (.Name y py) X.env (.ref Dd)) _ X.xe s4
  refine wpAny_assign_Name (store_ok2 (v := .ref Dd) I5 hN hi (.inl hx) rfl (fun s5 I6 ⟨a, hsb, ha⟩ => ?_) (.inr hx))
  have haC : C ≠ a := fun z => by
    rcases ha with e | e
    · exact h1 (z.trans e)
    · exact h2 y a e z.symm
  refine ⟨m, hn.sameBut hsb haC, fun h' hs' => ⟨σ.set i (some (.ref Dd)), H5, ?_, q5⟩⟩
  exact I6.turned (t' := s5.toks) (it := C) (fun b o hb e => (hs'.2 b hb).trans e) n5 h1 (.inr h0) h2 h3
end
end L2
set_option Elab.async false
set_option linter.all false
set_option maxRecDepth 100000
set_option maxHeartbeats 4000000
set_option autoImplicit false
namespace L3
open PySem PySem.Spec L2
open PyProof.Rows hiding St
section
variable {X : Cx} {E : XK} {k : Nat} {js : List Nat} {N' : List Str} {scope : Scope} {elt tg iter : Expr} {ifs : List Expr} {pos py spos : Pos} {y : Str} {i : Nat} {fi : DS → M (List D)} {g : TG} {sf : D → DS → Option DS} {gc : DS → M Bool} {fe : DS → M DV}
theorem st_setC (S : CompFit X k js N' scope) (hj : js.Nodup) (hc : X.calm = true) (hN : X.N.Nodup) (hit : PIx X E tg iter fi) (ht : TgV g sf) (hsub : ∀ δ d δ1, sf d (subD k js δ) = some δ1 → Sub (subD k js δ) δ1)
    (hg : ∀ C s₂ H₂ fp, PG (compCx X N' scope C s₂ H₂ fp) tg g) (hf : ∀ C s₂ H₂ fp, PF (compCx X N' scope C s₂ H₂ fp) ifs (tBo E0 gc)) (he : ∀ C s₂ H₂ fp, PX (compCx X N' scope C s₂ H₂ fp) E0 elt fe)
    (hi : X.N[i]? = some y := by rfl) (hx : X.env.scope.names.lookup y = some .local := by rfl) (hsw : swapsWith (.ListComp elt [⟨tg, iter, ifs, 0⟩] scope pos) (some (.Name y py)) spos.line X.env = pure true := by rfl)
    (hs : ∀ x, foldedSetIterable iter X.env x = pure x := by intro _; rfl) : PSt X E (.Assign [.Name y py] (.ListComp elt [⟨tg, iter, ifs, 0⟩] scope pos) spos) (fSet i (eComp k js fi sf gc fe)) :=
  PS.mono (ps_setC S hc hN hi hx hit hg hf he hsw hs) fun T σ H q => comp_read hj ht hsub (by
    obtain ⟨O, P, δ, r, rs, e, q⟩ := q
    rcases bd_cases e with ⟨x, e1, e2⟩ | ⟨cx, e1, e2⟩
    · obtain ⟨z, e3, e4⟩ := bd_op e2
      cases e4
      refine ⟨O, P, δ, .ok x, rs, e1, fun v H1 s1 rx => ?_⟩
      obtain ⟨P', kp, rs'⟩ := rs.asg s1 rx e3 i
      exact q _ H1 P' kp rs'
    · subst e2
      exact ⟨O, P, δ, .error cx, rs, e1, fun dx H' s => q dx H' P (.same s)⟩)
end
section
variable {X : Cx} {E : XK}
theorem cat_tup0 {prog : Program} {w : World} {A : Around} {E : Value → Shared → Prop} {s : Shared} {t b : Addr} {ws : List Value} {Q : Value → Shared → Prop} (ht : IsTup s.heap t #[]) (hb : IsTup s.heap b ws.toArray) (h : Q (.ref b) s) : wpAny (model prog w) A (binaryOp .Add (.ref t) (.ref b)) Q E s := by
  obtain ⟨⟨c1, d1, a1, l1⟩, o1, q1, n1, z1⟩ := id ht
  obtain ⟨⟨c2, d2, a2, l2⟩, o2, q2, n2, z2⟩ := id hb
  simp only at q1 z1 q2 z2
  subst q1 z1 q2 z2
  exact concat_meets ⟨_, o1, rfl⟩ ⟨_, o2, rfl⟩ noFill_tuple_add seq_tuple_add PySem.F.slot_tuple_add PySem.F.entry_tuple_add (PySem.F.args_tuple_add_2 _ _) (tuple_addW0 t b #[] ws.toArray n1 n2 d1 d2 l1 l2 rfl) ⟨o1, o2, h⟩
noncomputable def gCatT (x y : DV) : M DV := match x, y with
  | .d (.tuple xs), .d (.tuple ys) => if xs.length + ys.length ≤ 1000000 then rt (.d (.tuple (xs ++ ys))) else none
  | _, _ => none
theorem ov_catT : OpV X E (binaryOp .Add) gCatT := fun pins s σ O P H₀ H x y v u vv uu r Q I hd hs rx ry ev eu e q => by
  unfold gCatT at e
  split at e
  · rename_i xs ys
    split at e
    · rename_i hz
      cases e
      have rx' : Rp (P ++ O) H (.tuple xs) v := rx
      have ry' : Rp (P ++ O) H (.tuple ys) u := ry
      cases rx' with
      | @tup a _ vs za ha la =>
        cases ry' with
        | @tup b _ us zb hb lb =>
          cases xs with
          | nil =>
            cases la
            cases ev
            cases eu
            obtain ⟨i1, r1, p1, _⟩ := I.tuple (SqT.of ha)
            obtain ⟨i2, r2, p2, _⟩ := I.tuple (SqT.of hb)
            cases r1
            exact cat_tup0 p1 p2 ⟨.ref b, H, I, rfl, q _ H (Same.refl H) (.tup zb hb lb)⟩
          | cons x0 xr =>
            refine op_catT pins s σ H (.ref a) (.ref b) vv uu Q I ev eu ⟨a, b, vs, us, rfl, rfl, SqT.of ha, SqT.of hb, fun z => ?_, line_big (by rw [← la.length, ← lb.length]; exact hz), fun z => ?_, fun z p hp => ?_⟩
            · subst z; cases la
            · subst z
              cases lb
              rw [List.append_nil] at q
              exact q _ H (Same.refl H) (.tup za ha la)
            · exact q _ _ (same_upd hp) (madeT hd hs hp (la.append lb))
    · cases e
  · cases e
noncomputable def gPlus3 := gOr gPlus gCatT
theorem ov_plus3 : OpV X E (binaryOp .Add) gPlus3 := ov_plus.or ov_catT
noncomputable def fExt (i : Nat) (f : DS → M DV) (δ : DS) : M Out := match δ[i]? with
  | some (some (.own xs)) => bd (f δ) fun x => match x with
    | .new ys => if xs.length + ys.length ≤ 1000000 then rt (.nx (δ.set i (some (.own (xs ++ ys))))) else none
    | .d (.list ys) => if xs.length + ys.length ≤ 1000000 then rt (.nx (δ.set i (some (.own (xs ++ ys))))) else none
    | _ => none
  | _ => none
variable {e o : Expr} {pos apos cpos : Pos} {f : DS → M DV} {i : Nat}
theorem st_ext (ho : PE X o (tVar i)) (he : PX X E e f)
    (hbase : attributeBase o "extend" X.env (eval o X.env) = eval o X.env := by rfl)
    (hfew : ((backTo cpos (starEach [e] X.env)).all (fun x => !x.1) && (backToKw cpos (keywordEach [] X.env)).all (fun x => x.1.isSome)
      && decide ([e].length + ([] : List Keyword).length + (if ([] : List Keyword).isEmpty then 0 else 1) < 30)) = true := by rfl)
    (hline : (apos.endLine == cpos.line) = true := by rfl) (hs : starEach [e] X.env = (false, eval e X.env) :: starEach [] X.env := by rfl) (hplain : (backTo cpos (starEach [] X.env)).any (·.1) = false := by rfl)
    (hsw : swapsWith (.Call (.Attribute o "extend" apos) [e] [] cpos) none pos.line X.env = pure false := by rfl) : PSt X E (.Expr (.Call (.Attribute o "extend" apos) [e] [] cpos) pos) (fExt i f) :=
  PS.mono (ps_expr (pe_bm PySem.F.plainAttrs_list PySem.F.slot_list_extend PySem.F.type_list_extend mt_extend ho (pa_cons he pa_nil hs) hbase hfew hline hs hplain) hsw) fun T σ H q => by
    obtain ⟨O, P, δ, r, rs, e, q⟩ := q
    unfold fExt at e
    split at e
    · rename_i xs ei
      obtain ⟨v, ev, _, a, vs, rfl, hP, ha, l⟩ := rs.at' i _ ei
      refine ⟨.ref a, ev, .inl ⟨rfl, _, SqL.of ha⟩, ?_⟩
      rcases bd_cases e with ⟨x, e1, e2⟩ | ⟨cx, e1, e2⟩
      · refine ⟨O, P, δ, .ok x, rs, e1, fun u H1 s1 rx => ?_⟩
        have fin : ∀ ys b us, u = .ref b → H1 b = some (.lst us) → RpL (P ++ O) H1 ys us → xs.length + ys.length ≤ 1000000 → r = .ok (.nx (δ.set i (some (.own (xs ++ ys))))) → rExtend (.ref a) [u] H1 fun _ H2 => T.nx σ H2 := fun ys b us eu hb lb hz er => by
          subst eu er
          have l1 := (l.kp (.same s1)).append lb
          obtain ⟨kp, rs'⟩ := (rs.same s1).grow ei ev l1 hP
          exact ⟨a, b, vs, us, rfl, rfl, s1 a _ ha, hb, line_big (by rw [← l.length, ← lb.length]; exact hz), q σ _ P ((Kp.same s1).trans kp) rs'⟩
        split at e2
        · rename_i ys
          split at e2
          · rename_i hz
            cases e2
            obtain ⟨b, us, eu, hb, lb⟩ := rx.list (xs := ys) rfl
            exact fin ys b us eu hb lb hz rfl
          · cases e2
        · rename_i ys
          split at e2
          · rename_i hz
            cases e2
            obtain ⟨b, us, eu, hb, lb⟩ := rx.list (xs := ys) rfl
            exact fin ys b us eu hb lb hz rfl
          · cases e2
        · cases e2
      · subst e2
        exact ⟨O, P, δ, .error cx, rs, e1, fun dx H' s => q dx H' P (.same s)⟩
    · cases e
noncomputable def fNo (_ : DS) : M Out := none
theorem ds_no {sts : List Stmt} : PSd X E sts fNo := fun _ _ _ _ _ _ ⟨_, _, _, _, _, z, _⟩ => nomatch z
end
end L3
set_option Elab.async false
set_option linter.all false
set_option maxRecDepth 100000
set_option maxHeartbeats 4000000
set_option autoImplicit false
namespace L3
open PySem PySem.Spec L2
open PyProof.Rows hiding St
open PySem.W (Looks)
open Builtin Builtin.ObjectAttr Builtin.Getset_descriptor
structure Xy (K : PySem.W.Frag) (D : Addr) : Prop where
  ga : PySem.W.findIn K (.ref D) "__getattribute__" = some (some (.builtin "BaseException.__getattribute__"))
  gb : PySem.W.findIn K (.ref D) "__getattr__" = some none
  cls : PySem.W.isClsIn K D = true
  attr : PySem.W.findIn K (.ref D) "__class__" = some (some (.builtin "object.__class__"))
  dget : PySem.W.specialIn K (.builtin "object.__class__") "__get__" = some (some (.builtin "getset_descriptor.__get__"))
  takes : PySem.W.takesIn K (.builtin "object.__class__") = some true
  obj : PySem.W.mroIn K D (.type "object") = some true
  bex : PySem.W.mroIn K D (.type "BaseException") = some true
section
variable {prog : Program} {w : World} {A : Around} {E : Value → Shared → Prop} {s : Shared} {K : PySem.W.Frag} {x D : Addr}
theorem y_find {M : Model} {h : Heap} (X : K.In h) (k : Xy K D) : Looks M h (Builtin.ObjectAttr.find (.ref x) (.ref D) "__class__") (.bind (.builtin "getset_descriptor.__get__") (.builtin "object.__class__")) := by
  have l1 := PySem.W.looks_findIn (M := M) X k.attr
  have l2 : Looks M h (Builtin.ObjectAttr.getOf (some (.builtin "object.__class__"))) (some (.builtin "getset_descriptor.__get__")) := PySem.W.looks_specialIn X k.dget
  have l3 := PySem.W.looks_takesIn (M := M) X k.takes
  refine l1.andThen (l2.andThen ?_)
  refine (show Looks M h (Builtin.ObjectAttr.dataDescriptor? (some (.builtin "object.__class__")) (some (.builtin "getset_descriptor.__get__"))) (some (.builtin "getset_descriptor.__get__", .builtin "object.__class__")) from l3.andThen .now).andThen ?_
  exact Looks.tag .now
theorem y_entry {tk : Tok} {Q : Fin → Shared → Prop} (X : K.In s.heap) (I : IsX x D s.heap) (k : Xy K D) (h : Q (.done (.ret (.ref D))) s) : wpAny (model prog w) A (Builtin.«object.__getattribute__» ⟨[.ref x, .str "__class__" tk], []⟩) Q E s := by
  obtain ⟨hh, g, d, t, os⟩ := s
  have t0 : Looks (model prog w) hh (typeOf (.ref x)) (.ref D) := I.ty
  have t3 := y_find (M := model prog w) (x := x) X k
  have t4 := PySem.W.looks_mroIn (M := model prog w) X k.obj
  unfold Builtin.«object.__getattribute__»
  refine wpAny_bind (wpAny_pure (wpAny_bind (wpAny_pure (wpAny_bind (t0.at (wpAny_bind (t3.at ?_)))))))
  show wpAny _ _ (holding [.builtin "object.__class__"] (call (.builtin "getset_descriptor.__get__") [.builtin "object.__class__", .ref x, .ref D]) >>= ret) _ _ _
  refine wpAny_bind (wpAny_holding (wpAny_call (codeAny_call_builtin PySem.W.KF.slot_gs.plain PySem.W.KF.entry_gs (PySem.W.KF.slot_gs.check _ _ _ _ _ _ _ _ PySem.W.KF.type_class (PySem.W.KF.args_gs _ _ _) ?_))))
  unfold Builtin.«getset_descriptor.__get__» descrGet
  rw [PySem.W.dga_obj]
  refine wpAny_bind (wpAny_pure ?_)
  unfold descrGetter descrCheckInstance descrNameAndClass isInstance; simp only [PySem.W.KF.owner_class]
  repeat lk
  refine ⟨Code.quiet_builtin _ (by decide +kernel), codeAny_builtin PySem.W.KF.entry_class ?_⟩
  unfold Builtin.«object.__class__» shownTypeOf
  repeat lk
  exact h
theorem y_check {M : Model} {nameV : Value} {Q : Unit → Shared → Prop} (X : K.In s.heap) (I : IsX x D s.heap) (k : Xy K D) (hq : Q () s) : wpAny M A (checkBuiltinCall "BaseException.__getattribute__" ⟨[.ref x, nameV], []⟩) Q E s := by
  have hk : builtinKind "BaseException.__getattribute__" = some .slot := by decide +kernel
  have hsplit : splitId "BaseException.__getattribute__" = some ("BaseException", "__getattribute__") := by decide +kernel
  have ha := PySem.F.args_bexc_ga (.ref x) nameV
  have LI : Looks M s.heap (isInstance (.ref x) (.type "BaseException")) true := I.ty.andThen (PySem.W.looks_mroIn X k.bex)
  obtain ⟨hh, g, d, t, os⟩ := s
  simp only [checkBuiltinCall, hk, hsplit]
  refine wpAny_bind (LI.at ?_)
  repeat (any_goals (first | assumption | wp_step))
theorem y_class {Q : Option Value → Shared → Prop} (X : K.In s.heap) (I : IsX x D s.heap) (k : Xy K D) (h : Q (some (.ref D)) { s with toks := s.toks + 1 }) : wpAny (model prog w) A (getAttr? (.ref x) "__class__") Q E s := by
  obtain ⟨hh, g, d, t, os⟩ := s
  have t0 : Looks (model prog w) hh (typeOf (.ref x)) (.ref D) := I.ty
  have t1 := PySem.W.looks_findIn (M := model prog w) X k.ga
  have t2 := PySem.W.looks_findIn (M := model prog w) X k.gb
  have hx2 : (Value.builtin "BaseException.__getattribute__" == Value.builtin "object.__getattribute__") = false := by decide +kernel
  have hx1 : (onTheHeap (Value.ref D) && Value.builtin "BaseException.__getattribute__" == Value.builtin "object.__getattribute__") = false := by rw [hx2]; rfl
  have f3 := PySem.F.attrBase_ValueError.ga.bind (.ref x)
  unfold getAttr? getAttrBy? getAttrBy
  refine wpAny_bind (wpAny_mkText (wpAny_bind (wpAny_attempt (wpAny_holding (wpAny_bind (t0.at (wpAny_bind (t1.at ?_))))))))
  show wpAny _ _ (if (onTheHeap (Value.ref D) && Value.builtin "BaseException.__getattribute__" == Value.builtin "object.__getattribute__") = true then _ else _) _ _ _
  rw [if_neg (by rw [hx1]; decide)]
  unfold getAttrByItsOwn
  refine wpAny_bind (show wpAny _ _ (typeLookup (.ref D) "__getattr__") _ _ _ from t2.at ?_)
  refine wpAny_bind (wpAny_attempt (wpAny_holding ?_))
  show wpAny _ _ (boundAndCalled _ _ _) _ _ _
  unfold boundAndCalled
  rw [f3]
  refine wpAny_bind (wpAny_pure ?_)
  refine wpAny_call (codeAny_call_builtin PySem.F.attrBase_ValueError.ga.plain PySem.F.entry_bexc_ga (y_check X I k (y_entry X I k ?_)))
  repeat (any_goals (first | assumption | lk | wp_step))
theorem kitx_y (k : Xy K D) : PySem.W.KitX K (.ref x) (.ref D) (IsX x D) where
  ty := fun _ _ _ I => I.ty
  it := fun _ _ X _ => by
    obtain ⟨cd, hc⟩ := Option.isSome_iff_exists.mp (show (PySem.W.clsIn K D).isSome = true from k.cls)
    unfold PySem.W.clsIn at hc
    split at hc
    · rename_i ho
      intro A' Q' E' s' kk q
      unfold isType loadHead; exact wpAny_bind (wpAny_loadPart (kk _ _ (X _ _ ho)) (wpAny_pure q))
    · cases hc
  ne := fun h tp dd its n sl X htp => by
    obtain ⟨cd, hc⟩ := Option.isSome_iff_exists.mp (show (PySem.W.clsIn K D).isSome = true from k.cls)
    refine Bool.eq_false_iff.mpr fun q => ?_
    obtain rfl : D = tp := Value.ref.inj (beq_iff_eq.mp q)
    unfold PySem.W.clsIn at hc
    split at hc
    · rename_i ho
      cases (X _ _ ho).symm.trans htp
    · cases hc
  ca := fun X I q => y_class X I k q
end
section
variable {X : Cx} {e C : Addr} {oe : Obj} {i : Nat} {n y : Str} {p p1 p2 pos : Pos} {c : Value} {b : Bool}
theorem pe_isYb (hp : (e, oe) ∈ X.pn) (hc : oe.cls = .ref C) (k : Xy X.K C) (q : PySem.W.kitOne X.K (.ref C) c = some b) (hm : X.mg "isinstance" = none) (hn : PE X (.Name n p1) (tVar i))
    (hy : ∀ (pins : List (Addr × Obj)) (s : Shared) (σ : St) (H : Hp) (Q : Value → Shared → Prop), Inv X pins σ H s → Q c s → wpAny (model X.prog X.w) X.A (eval (.Name y p2) X.env) Q X.xe s) (hg : Gl X "isinstance" := by rfl)
    (he : starEach [.Name n p1, .Name y p2] X.env = (false, eval (.Name n p1) X.env) :: starEach [.Name y p2] X.env := by rfl) (he2 : starEach [(.Name y p2 : Expr)] X.env = (false, eval (.Name y p2) X.env) :: starEach [] X.env := by rfl)
    (hpl : (backTo pos (starEach [.Name y p2] X.env)).any (·.1) = false := by rfl) : PE X (.Call (.Name "isinstance" p) [.Name n p1, .Name y p2] [] pos) (tEx i e b) := by
  intro pins s σ H Q I h
  refine wpAny_Call_Name_kw (ld_blt I hg hm bt_isinstance ?_)
  refine PyProof.Rows.callWith_builtin1 (PyProof.Rows.spliced_more (thn (hn pins s σ H (fun v H1 => v = .ref e ∧ H1 = H) I ⟨.ref e, h.1, rfl, rfl⟩) fun u s1 ⟨v, H1, I1, r1, ev, eH⟩ => PyProof.Rows.spliced_more (hy pins s1 σ H1 _ I1 ?_) he2) he) he hpl
  subst ev eH
  cases r1
  refine PyProof.Rows.spliced_none ?_
  obtain ⟨g, _⟩ := I1.pin _ (List.mem_append_left _ hp)
  exact PySem.W.kia_one (kitx_y k) I1.kIn ⟨oe, g, hc⟩ q (fun z => nomatch z) fun tk => ⟨.bl b, H1, I1.tok tk, rfl, h.2⟩
theorem pe_isOy {D : Addr} (hp : (e, oe) ∈ X.pn) (hc : oe.cls = .ref C) (k : Xy X.K C) (q : PySem.W.kitOne X.K (.ref C) (.ref D) = some b) (hm : X.mg "isinstance" = none) (hmy : X.mg y = some (.ref D)) (hn : PE X (.Name n p1) (tVar i)) (hg : Gl X "isinstance" := by rfl) (hgy : Gl X y := by rfl) (hd : (y == ("__debug__" : Str)) = false := by decide)
    (he : starEach [.Name n p1, .Name y p2] X.env = (false, eval (.Name n p1) X.env) :: starEach [.Name y p2] X.env := by rfl) (he2 : starEach [(.Name y p2 : Expr)] X.env = (false, eval (.Name y p2) X.env) :: starEach [] X.env := by rfl)
    (hpl : (backTo pos (starEach [.Name y p2] X.env)).any (·.1) = false := by rfl) : PE X (.Call (.Name "isinstance" p) [.Name n p1, .Name y p2] [] pos) (tEx i e b) :=
  pe_isYb hp hc k q hm hn (fun _ _ _ _ _ I h => ld_glob I hgy hmy h hd) hg he he2 hpl
end
end L3
set_option Elab.async false
set_option linter.all false
set_option maxRecDepth 100000
set_option maxHeartbeats 4000000
set_option autoImplicit false
namespace L3
open PySem PySem.Spec L2
open PyProof.Rows hiding St
section
variable {X : Cx} {E : XK}
noncomputable def intsL : List D → Option (List Int)
  | [] => some []
  | .int i :: r => (intsL r).map (i :: ·)
  | _ :: _ => none
theorem intsL_get : ∀ {xs : List D} {ns : List Int}, intsL xs = some ns → xs = ns.map PyData.int
  | [], ns, h => by cases h; rfl
  | x :: r, ns, h => by
    cases x with
    | int b =>
      unfold intsL at h
      cases e : intsL r with
      | none => rw [e] at h; cases h
      | some cs => rw [e] at h; cases h; rw [intsL_get e]; rfl
    | _ => cases h
theorem intsL_map (ns : List Int) : intsL (ns.map PyData.int) = some ns := by
  induction ns with
  | nil => rfl
  | cons b r ih => rw [List.map_cons, intsL, ih]; rfl
noncomputable def gSum (xs : List DV) : M DV := match xs with
  | [x] => bd (op (asL x)) fun ys => bd (op (intsL ys)) fun ns => rt (.d (.int ns.sum))
  | _ => none
theorem vals_ints {Z : List Addr} {H : Hp} : ∀ {ns : List Int} {vs : List V} {us : List Value}, RpL Z H (ns.map PyData.int) vs → Vals vs us → ∃ ps : List (Int × Tok), us = ps.map (fun p => Value.int p.1 p.2) ∧ ps.map (·.1) = ns
  | [], _, _, .nil, .nil => ⟨[], rfl, rfl⟩
  | b :: r, _, _, .cons p l, .cons q t => by
    cases p
    obtain ⟨tk, rfl⟩ := q
    obtain ⟨ps, e1, e2⟩ := vals_ints l t
    exact ⟨(b, tk) :: ps, by rw [e1]; rfl, by rw [List.map_cons, e2]⟩
theorem bt_sum : bootBuiltins "sum" = some (.builtin "sum") := by decide +kernel
theorem cv_sum (hc : X.calm = true) : CallV X E (.builtin "sum") gSum := fun pins s σ O P H₀ H xs vs us r Q I hd hs rx rv e q => by
  unfold gSum at e
  split at e
  · obtain ⟨ys, e1, e2⟩ := bd_op e
    obtain ⟨ns, e3, e4⟩ := bd_op e2
    cases e4
    cases rx with
    | cons r1 rr =>
      cases rr
      obtain ⟨a, ws, rfl, ha, l⟩ := r1.list e1
      cases rv with
      | cons q1 q2 =>
        cases q2
        cases q1
        have hys := intsL_get e3
        subst hys
        obtain ⟨its, ri, pl, hz⟩ := I.list (SqL.of ha)
        obtain ⟨ps, hits, hns⟩ := vals_ints l ri
        have hlist := pl.isList
        have hl : s.heap.IsList a (intItems ps.toArray) := by
          have : its.toArray = intItems ps.toArray := by rw [hits]; simp [intItems]
          rw [← this]; exact hlist
        refine sum_intListG (I.ok.hd hc) hl fun h' tk t' hk => ?_
        have hsum : preSum (numAt ps.toArray) ps.toArray.size = ns.sum := by
          rw [preSum_eq, List.take_of_length_le (by simp)]
          rw [← hns]
        rw [hsum]
        exact ⟨.int _, H, I.kept (t' := tk) fun b ob eb => hk b ob eb, ⟨_, rfl⟩, q _ H (Same.refl H) (.int _)⟩
  · cases e
end
end L3
set_option Elab.async false
set_option linter.all false
set_option maxRecDepth 100000
set_option maxHeartbeats 4000000
set_option autoImplicit false
namespace L3
open PySem PySem.Spec L2
open PyProof.Rows hiding St
theorem entry_dict_loop : entryFor table "dict.update.loop" = some Builtin.«dict.update.loop» := entryFor_of_tree (by kernel_rfl)
theorem plain_dict_loop : plainId "dict.update.loop" = true := by decide +kernel
section
variable {prog : Program} {w : World} {A : Around} {R : Result → Shared → Prop} {I d : Addr} {fp wr : List Addr} {n : Nat} {P : Nat → Value → Prop} {St : Nat → Heap → Prop} {κ : Type} [DecidableEq κ] {knd : KeyKind prog w κ}
theorem stored_new {kvs : List (κ × Value)} {k : κ} {v : Value} (h : ∀ p ∈ kvs, p.1 ≠ k) : stored kvs k v = kvs ++ [(k, v)] := by
  unfold stored
  rw [if_neg]
  intro z
  rw [List.any_eq_true] at z
  obtain ⟨p, hp, e⟩ := z
  exact h p hp (of_decide_eq_true e)
structure PairAt (knd : KeyKind prog w κ) (wr : List Addr) (d : Addr) (h : Heap) (v : Value) (kv : κ × Value) : Prop where
  ex : ∃ t key, v = .ref t ∧ t ∉ wr ∧ t ≠ d ∧ h.IsTuple t #[key, kv.2] ∧ knd.is kv.1 key = true
theorem codeAny_dict_loop (W : Walks prog w A.in1 I fp wr n P St) (kvs : List (κ × Value)) (hn : kvs.length = n) (hz : n ≤ sizeLine) (hnd : (kvs.map (·.1)).Nodup) (h0 : Heap) (hdf : d ∉ fp)
    (hP : ∀ i v, P i v → ∀ kv, kvs[i]? = some kv → PairAt knd wr d h0 v kv) :
    ∀ (k i : Nat) (s : Shared), n - i = k → i ≤ n → St i s.heap → (∀ b o, b ∉ wr → b ≠ d → h0.get? b = some o → s.heap.get? b = some o) → s.heap.DictOf knd d (kvs.take i) →
    (∀ h' tk, h'.DictOf knd d kvs → (∀ b o, b ∉ wr → b ≠ d → s.heap.get? b = some o → h'.get? b = some o) → R (.ok (.ret .none)) { s with heap := h', toks := tk }) →
    codeAny (model prog w) A (.builtin "dict.update.loop" ⟨[.ref d, .ref I, rawInt i, .none], []⟩) R s := by
  have hdw : d ∉ wr := fun h => hdf (W.sub _ h)
  intro k
  induction k with
  | zero =>
    intro i s hk hi hst hkeep hd hR
    have hin : i = n := by lia
    subst hin
    rw [List.take_of_length_le (by lia)] at hd
    refine codeAny_builtin entry_dict_loop ?_
    rw [Around.under_plainId plain_dict_loop _]
    show wpAny _ A.in1 (pyNext (.ref I) >>= _) _ _ s
    refine wpAny_bind (W.done s _ _ hst fun h' tk hk' => ?_)
    show wpAny _ A.in1 (Builtin.Dict.addKeywords d [] >>= _) _ _ _
    refine wpAny_bind (wpAny_pure (wpAny_pure ?_))
    exact hR h' tk (let ⟨o, es, ep, ho, r⟩ := hd; ⟨o, es, ep, hk' _ _ hdw ho, r⟩) fun b o hbw _ e => hk' b o hbw e
  | succ k ih =>
    intro i s hk hi hst hkeep hd hR
    have hlt : i < n := by lia
    refine codeAny_builtin entry_dict_loop ?_
    rw [Around.under_plainId plain_dict_loop _]
    show wpAny _ A.in1 (pyNext (.ref I) >>= _) _ _ s
    refine wpAny_bind (W.item i s _ _ hlt hst fun v h' tk hPv hst' hk' => ?_)
    have hi' : i < kvs.length := by lia
    obtain ⟨t, key, rfl, htw, htd, htup, hkey⟩ := (hP i v hPv kvs[i] (List.getElem?_eq_getElem hi')).ex
    have htup' : h'.IsTuple t #[key, kvs[i].2] := by
      obtain ⟨o, ho, r⟩ := htup
      exact ⟨o, hk' _ _ htw (hkeep _ _ htw htd ho), r⟩
    obtain ⟨o, ho, hc, nn, hdat⟩ := id htup'
    have hd' : h'.DictOf knd d (kvs.take i) := let ⟨o, es, ep, ho, r⟩ := hd; ⟨o, es, ep, hk' _ _ hdw ho, r⟩
    refine wpAny_bind (wpAny_holding (wpAny_bind (wpAny_tryCatch ?_)))
    unfold Builtin.Dict.pairItems
    refine wpAny_bind (wpAny_typeOf (T := "tuple") ⟨o, ho, hc⟩ ?_)
    rw [if_pos (by decide)]
    refine wpAny_bind (wpAny_seqItems ho hdat (wpAny_pure ?_))
    show wpAny _ A.in1 (holding [key, kvs[i].2] (dictSet d key kvs[i].2)) _ _ _
    refine wpAny_holding (wpAny_dictSet_pairs hkey hd' (fun h2 hd2 hs2 => ?_) (by rw [List.length_take]; lia))
    have hst2 : stored (kvs.take i) kvs[i].1 kvs[i].2 = kvs.take (i + 1) := by
      rw [stored_new, List.take_succ, List.getElem?_eq_getElem hi']
      · rfl
      · intro p hp e
        have h1 : (kvs.map (·.1)).Nodup := hnd
        obtain ⟨j, hj, ej⟩ := List.mem_iff_getElem.mp hp
        rw [List.length_take] at hj
        have hji : j < i := by lia
        rw [List.getElem_take] at ej
        have hjl : j < kvs.length := by lia
        have := (List.pairwise_iff_getElem.mp h1) j i (by rw [List.length_map]; exact hjl) (by rw [List.length_map]; exact hi') hji
        apply this
        rw [List.getElem_map, List.getElem_map]
        rw [ej, e]
    rw [hst2] at hd2
    refine wpAny_pure ⟨plainId_quiet plain_dict_loop _, ?_⟩
    have ih' := ih (i + 1) { s with heap := h2, toks := tk + 1 } (by lia) hlt (W.frame _ _ _ hst' fun b hb o e => (hs2.2 b (fun z => hdf (by rw [← z]; exact hb))).trans e)
      (fun b o hbw hbd e => (hs2.2 b hbd).trans (hk' b o hbw (hkeep b o hbw hbd e))) hd2 fun h3 tk3 hd3 hk3 => hR h3 tk3 hd3 fun b o hbw hbd e => hk3 b o hbw hbd ((hs2.2 b hbd).trans (hk' b o hbw e))
    exact ih'
end
theorem list_no_keys : typeLookup (.type "list") "keys" = pure none := am_miss_of_fast (by decide +kernel)
theorem keys_miss {prog : Program} {w : World} {A : Around} {E : Value → Shared → Prop} {s : Shared} {a : Addr} {o : Obj} {xs : Array Value} {k : Nat} {Q : Option Value → Shared → Prop}
    (hx : s.heap.get? a = some o) (hc : o.cls = .type "list") (hdat : o.data = .seq xs k) (hd : o.dict = none) (hA : A.handled = none)
    (h : ∀ h' tk, (∀ b ob, s.heap.get? b = some ob → h'.get? b = some ob) → Q none { s with heap := h', toks := tk }) : wpAny (model prog w) A (getAttr? (.ref a) "keys") Q E s := by
  obtain ⟨c, dct, dat, sl⟩ := o
  simp only at hc hdat hd
  subst hc hdat hd
  obtain ⟨hp, g, d, tk, os⟩ := s
  have hT : ∀ tk', (⟨hp, g, d, tk', os⟩ : Shared).TypeIs (.ref a) "list" := fun _ => ⟨_, hx, rfl⟩
  have f1 := sub_AttributeError
  have f3 := PySem.F.slot_list_getattribute.lookup
  have f4 := PySem.F.slot_list_getattribute.bind (.ref a)
  have f5 := am_list_getattr_none
  unfold getAttr? getAttrBy? getAttrBy
  repeat (any_goals (first | assumption | exact hT _ | ((with_reducible show wpAny _ _ (call (Value.builtin "list.__getattribute__") _ _) _ _ _); refine call_meets PySem.F.slot_list_getattribute (hT _) am_entry_list_getattribute (PySem.F.args_list_getattribute_2 _ _) (meets_getattribute_miss_list a xs k sl "keys" _ list_no_keys (by decide +kernel)) ⟨hx, hA, fun h' tk' e hx' => ?_⟩) | wp_step))
  obtain ⟨t', u', he⟩ := hx'.there
  show wpAny _ _ (getattributeRaised _ _ _ _ _ _ _) _ _ _
  unfold getattributeRaised
  repeat (any_goals (first | assumption | wp_step))
  exact h _ _ hx'.keeps
section
variable {prog : Program} {w : World} {A : Around} {E : Value → Shared → Prop} {s : Shared} {κ : Type} [DecidableEq κ] {knd : KeyKind prog w κ}
theorem call_dict_pairs {l : Addr} {xs : List Value} {Q : Value → Shared → Prop} (hl : PlainL s.heap l xs.toArray) (hA : A.handled = none) (kvs : List (κ × Value)) (hn : kvs.length = xs.length) (hz : xs.length ≤ sizeLine) (hnd : (kvs.map (·.1)).Nodup)
    (hP : ∀ (i : Nat) (v : Value) (kv : κ × Value), xs[i]? = some v → kvs[i]? = some kv → ∃ t key, v = .ref t ∧ s.heap.IsTuple t #[key, kv.2] ∧ knd.is kv.1 key = true)
    (h : ∀ h' tk, h'.DictOf knd s.heap.objs.size kvs → (∀ b ob, s.heap.get? b = some ob → h'.get? b = some ob) → Q (.ref s.heap.objs.size) { s with heap := h', toks := tk }) :
    wpAny (model prog w) A (call (.type "dict") [.ref l]) Q E s := by
  obtain ⟨o, n, hx, hc, hdn, hdat⟩ := id hl
  refine callType_codes (Q₁ := fun obj s₁ => obj = .ref s.heap.objs.size ∧ s₁ = { s with heap := s.heap.push { cls := .type "dict", data := .dict #[] } }) PySem.F.kt_called_dict (PySem.F.kt_typeCall_dict_1 _) PySem.F.entry_dict_init (kt_code_dict_new _ ⟨rfl, rfl⟩) ?_
  rintro obj s₁ ⟨rfl, rfl⟩
  have hnew : (s.heap.push { cls := .type "dict", data := .dict #[] }).DictOf knd s.heap.objs.size [] := Heap.DictOf.new s.heap
  have hx' : (s.heap.push { cls := .type "dict", data := .dict #[] }).get? l = some o := Heap.get?_push_of_some _ hx
  refine ⟨hnew.typeIs, PySem.F.args_dict_init_2 _ _, ?_⟩
  unfold Builtin.«dict.__init__»
  refine wpAny_bind ?_
  unfold Builtin.Dict.selfAndRest
  refine wpAny_bind (wpAny_notOrdered_dict hnew.typeIs ?_)
  show wpAny _ _ (pure (s.heap.objs.size, [Value.ref l])) _ _ _
  refine wpAny_pure ?_
  show wpAny _ _ (Builtin.Dict.updateFrom "dict.__init__" s.heap.objs.size (.ref l) [] .none) _ _ _
  unfold Builtin.Dict.updateFrom
  refine wpAny_bind (wpAny_typeOf (T := "list") ⟨o, hx', hc⟩ ?_)
  rw [if_pos (by decide)]
  refine wpAny_bind (keys_miss hx' hc hdat hdn hA fun h1 tk1 hk1 => ?_)
  show wpAny _ _ (rule _ >>= _) _ _ _
  refine wpAny_bind (wpAny_rule ?_)
  have hl1 : h1.IsList l xs.toArray := ⟨o, hk1 _ _ hx', hc, n, hdat⟩
  refine wpAny_bind (wpAny_pyIter_list hl1 ?_)
  have hlt : l < h1.objs.size := Heap.lt_size (hk1 _ _ hx')
  have hd1 : s.heap.objs.size < h1.objs.size := by
    obtain ⟨o2, _, _, ho2, _⟩ := hnew
    exact Heap.lt_size (hk1 _ _ ho2)
  have hdl : s.heap.objs.size ≠ l := fun z => Nat.lt_irrefl _ (by have := Heap.lt_size hx; rw [← z] at this; exact this)
  refine wpAny_pure ⟨plainId_quiet plain_dict_loop _, ?_⟩
  refine codeAny_dict_loop (knd := knd) (fp := [h1.objs.size, l]) (wr := [h1.objs.size]) (n := xs.toArray.size) (Walks.list (A := A.in1.in1) hA _ l (Nat.ne_of_lt hlt) xs.toArray) kvs (by simpa using hn) (by simpa using hz) hnd s.heap ?_ ?_ xs.toArray.size 0 _ rfl (Nat.zero_le _) ⟨⟨_, Heap.get?_push_size _ rfl, rfl, rfl⟩, hl1.push _⟩ ?_ ?_ ?_
  · intro z
    rcases List.mem_cons.mp z with e | z
    · exact Nat.ne_of_lt hd1 e
    · exact hdl (List.mem_singleton.mp z)
  · intro i v hv kv hkv
    have hv' : xs[i]? = some v := by simpa using hv
    obtain ⟨t, key, rfl, ht, hkey⟩ := hP i v kv hv' hkv
    have htl : t < s.heap.objs.size := by obtain ⟨o3, h3, _⟩ := ht; exact Heap.lt_size h3
    refine ⟨t, key, rfl, fun z => ?_, Nat.ne_of_lt htl, ht, hkey⟩
    rw [List.mem_singleton.mp z] at htl
    exact Nat.lt_irrefl _ (Nat.lt_trans htl hd1)
  · intro b ob hbw hbd e
    exact Heap.get?_push_of_some _ (hk1 _ _ (Heap.get?_push_of_some _ e))
  · obtain ⟨o2, es, ep, ho2, r⟩ := hnew
    exact ⟨o2, es, ep, Heap.get?_push_of_some _ (hk1 _ _ ho2), r⟩
  · intro h' tk hd' hk'
    refine ⟨rfl, h h' tk hd' fun b ob e => hk' b ob (fun z => ?_) (Nat.ne_of_lt (Heap.lt_size e)) (Heap.get?_push_of_some _ (hk1 _ _ (Heap.get?_push_of_some _ e)))⟩
    have := Heap.lt_size e
    rw [List.mem_singleton.mp z] at this
    exact Nat.lt_irrefl _ (Nat.lt_trans this hd1)
end
end L3
set_option Elab.async false
set_option linter.all false
set_option maxRecDepth 100000
set_option maxHeartbeats 4000000
set_option autoImplicit false
namespace L3
open PySem PySem.Spec L2
open PyProof.Rows hiding St
section
variable {X : Cx} {E : XK} {pins : List (Addr × Obj)} {σ : St} {H : Hp} {s : Shared}
theorem big_of (I : Inv X pins σ H s) : sysModules < s.heap.objs.size := by
  have h : mainGlobals < s.heap.objs.size := (I.mod.glob.keeps I.bk).lt
  exact Nat.lt_trans (by decide) h
noncomputable def pair? : D → Option (Str × D)
  | .tuple [.str k, v] => some (k, v)
  | _ => none
noncomputable def pairD (p : Str × D) : D := .tuple [.str p.1, p.2]
noncomputable def pairsD : List D → Option (List (Str × D))
  | [] => some []
  | x :: r => match pair? x, pairsD r with
    | some p, some ps => some (p :: ps)
    | _, _ => none
theorem pair?_get {x : D} {p : Str × D} (h : pair? x = some p) : x = pairD p := by
  unfold pair? at h
  split at h
  · cases h; rfl
  · cases h
theorem pairsD_get : ∀ {xs : List D} {kvs : List (Str × D)}, pairsD xs = some kvs → xs = kvs.map pairD
  | [], kvs, h => by cases h; rfl
  | x :: r, kvs, h => by
    rw [pairsD] at h
    cases e1 : pair? x with
    | none => rw [e1] at h; cases h
    | some p =>
      cases e : pairsD r with
      | none => rw [e1, e] at h; cases h
      | some cs => rw [e1, e] at h; cases h; rw [pairsD_get e, pair?_get e1]; rfl
theorem pairsD_map : ∀ kvs : List (Str × D), pairsD (kvs.map pairD) = some kvs
  | [] => rfl
  | p :: r => by
    rw [List.map_cons, pairsD, pairsD_map r]
    rfl
theorem bt_dict : bootBuiltins "dict" = some (.type "dict") := by decide +kernel
noncomputable def gDict (xs : List DV) : M DV := match xs with
  | [x] => bd (op (asL x)) fun ys => bd (op (pairsD ys)) fun kvs => if (kvs.map (·.1)).Nodup then rt (.tbl kvs) else none
  | _ => none
theorem pairs_vals (I : Inv X pins σ H s) {Z : List Addr} : ∀ {kvs : List (Str × D)} {ws : List V} {us : List Value}, RpL Z H (kvs.map pairD) ws → Vals ws us →
    ∃ (kv : List (Key × V)) (cs : List (Key × Value)), KvR Z H kvs kv ∧ KV kv cs ∧ cs.length = us.length ∧ cs.map (·.1) = kvs.map (fun p => (Sum.inr p.1 : Key)) ∧
      ∀ (i : Nat) (v : Value) (c : Key × Value), us[i]? = some v → cs[i]? = some c → ∃ t key, v = .ref t ∧ s.heap.IsTuple t #[key, c.2] ∧ (mixKind X.prog X.w).is c.1 key = true
  | [], _, _, .nil, .nil => ⟨[], [], .nil, .nil, rfl, rfl, fun i v c h => by simp at h⟩
  | p :: r, _, _, .cons r0 l, .cons q t => by
    have r0' : Rp Z H (.tuple [.str p.1, p.2]) _ := r0
    cases r0' with
    | tup hz ha lt =>
      cases lt with
      | cons r1 l1 =>
        cases l1 with
        | cons r2 l2 =>
          cases l2
          cases r1
          cases q
          obtain ⟨kv, cs, h1, h2, h3, h4, h5⟩ := pairs_vals I l t
          obtain ⟨its, ri, ⟨o, ho, hc, n, hd⟩, _⟩ := I.tuple (SqT.of ha)
          cases ri with
          | cons q1 qr =>
            cases qr with
            | cons q2 qr =>
              cases qr
              obtain ⟨tk, rfl⟩ := q1
              refine ⟨(Sum.inr p.1, _) :: kv, (Sum.inr p.1, _) :: cs, .cons ⟨rfl, r2⟩ h1, .cons ⟨rfl, q2⟩ h2, by rw [List.length_cons, List.length_cons, h3], by rw [List.map_cons, List.map_cons, h4], fun i v c e1 e2 => ?_⟩
              cases i with
              | zero =>
                cases e1
                cases e2
                exact ⟨_, _, rfl, ⟨o, ho, hc, n, hd⟩, mixKind_str _ _ _ _⟩
              | succ i => exact h5 i v c (by simpa using e1) (by simpa using e2)
theorem cv_dict (hc : X.calm = true) : CallV X E (.type "dict") gDict := fun pins s σ O P H₀ H xs vs us r Q I hd hs rx rv e q => by
  unfold gDict at e
  split at e
  · obtain ⟨ys, e1, e2⟩ := bd_op e
    obtain ⟨kvs, e3, e4⟩ := bd_op e2
    split at e4
    · rename_i hnd
      cases e4
      cases rx with
      | cons r1 rr =>
        cases rr
        obtain ⟨a, ws, rfl, ha, l⟩ := r1.list e1
        cases rv with
        | cons q1 q2 =>
          cases q2
          cases q1
          have hys := pairsD_get e3
          subst hys
          obtain ⟨its, ri, pl, hz⟩ := I.list (SqL.of ha)
          obtain ⟨kv, cs, h1, h2, h3, h4, h5⟩ := pairs_vals I l ri
          have hlen : its.length = ws.length := (Paired.length ri).symm
          have hkl : kv.length = its.length := (Paired.length h2).trans h3
          refine call_dict_pairs (knd := mixKind X.prog X.w) pl (I.ok.hd hc) cs h3 (by lia) ?_ h5 fun h' tk hdict hk => ?_
          · rw [h4]
            have : kvs.map (fun p => (Sum.inr p.1 : Key)) = (kvs.map (·.1)).map Sum.inr := by rw [List.map_map]; rfl
            rw [this]
            exact List.Pairwise.map _ (fun a b hab z => hab (Sum.inr.inj z)) hnd
          · have hfr : H s.heap.objs.size = none := I.hok.fresh (Nat.le_refl _)
            refine ⟨.ref s.heap.objs.size, _, I.laid (a := s.heap.objs.size) (o := .dK kv) (t' := tk) hk (Nat.le_refl _) ⟨by lia, beq_eq_false_iff_ne.mpr (Ne.symm (Nat.ne_of_lt (big_of I))), cs, h2, hdict⟩, rfl, q _ _ (same_upd hfr) ?_⟩
            refine ⟨_, kv, rfl, fun hz' => ?_, upd_same, Paired.mapP h1 fun _ _ z => ⟨z.1, z.2.kp (.same (same_upd hfr))⟩⟩
            obtain ⟨o, eo⟩ := hd _ hz'
            rw [hs _ _ eo] at hfr
            cases hfr
    · cases e4
  · cases e
noncomputable def findT (kvs : List (Str × D)) (k : Str) : Option D := (kvs.find? fun p => decide (p.1 = k)).map (·.2)
noncomputable def gInT (neg : Bool) (x y : DV) : M DV := match x, y with
  | .d (.str k), .tbl kvs => rt (.d (.bool (if neg = true then !(findT kvs k).isSome else (findT kvs k).isSome)))
  | _, _ => none
noncomputable def gGet (x y : DV) : M DV := match x, y with
  | .tbl kvs, .d (.str k) => bd (op (findT kvs k)) fun d => rt (.d d)
  | _, _ => none
theorem valueAt_find {Z : List Addr} {H : Hp} {k : Str} : ∀ {kvs : List (Str × D)} {kv : List (Key × V)} {cs : List (Key × Value)}, KvR Z H kvs kv → KV kv cs →
    (findT kvs k = none ∧ valueAt cs (Sum.inr k) = none) ∨ ∃ d v u, findT kvs k = some d ∧ valueAt cs (Sum.inr k) = some u ∧ Rp Z H d v ∧ RelV v u
  | [], _, _, .nil, .nil => .inl ⟨rfl, rfl⟩
  | p :: r, _, _, .cons ⟨a1, a2⟩ l, .cons ⟨b1, b2⟩ t => by
    by_cases h : p.1 = k
    · refine .inr ⟨p.2, _, _, ?_, ?_, a2, b2⟩
      · unfold findT; rw [List.find?_cons_of_pos (by simpa using h)]; rfl
      · unfold valueAt
        rw [List.find?_cons_of_pos (by rw [← b1, a1, h]; simp)]; rfl
    · rcases valueAt_find (k := k) l t with ⟨z1, z2⟩ | ⟨d, v, u, z1, z2, z3⟩
      · refine .inl ⟨?_, ?_⟩
        · unfold findT at z1 ⊢; rw [List.find?_cons_of_neg (by simpa using h)]; exact z1
        · unfold valueAt at z2 ⊢
          rw [List.find?_cons_of_neg (by rw [← b1, a1]; simpa using h)]; exact z2
      · refine .inr ⟨d, v, u, ?_, ?_, z3⟩
        · unfold findT at z1 ⊢; rw [List.find?_cons_of_neg (by simpa using h)]; exact z1
        · unfold valueAt at z2 ⊢
          rw [List.find?_cons_of_neg (by rw [← b1, a1]; simpa using h)]; exact z2
theorem mapsTo {O P : List Addr} {H₀ : Hp} {kvs : List (Str × D)} {v : V} (I : Inv X pins σ H s) (r : RE O P H₀ H (.tbl kvs) v) : ∃ a cs, v = .ref a ∧ (a == sysModules) = false ∧ s.heap.DictOf (mixKind X.prog X.w) a cs ∧ ∃ kv, KvR (P ++ O) H kvs kv ∧ KV kv cs := by
  obtain ⟨a, kv, rfl, hz, ha, hk⟩ := r
  obtain ⟨_, h2, cs, h3, h4⟩ := (show ObjOk X.prog X.w H s.heap a (.dK kv) from I.hok a _ ha)
  exact ⟨a, cs, rfl, h2, h4, kv, hk, h3⟩
theorem ov_inT : OpV X E (compareOp .In) (gInT false) := fun pins s σ O P H₀ H x y v u vv uu r Q I hd hs rx ry ev eu e q => by
  unfold gInT at e
  split at e
  · rename_i k kvs
    cases e
    obtain ⟨a, cs, rfl, h2, hdd, kv, h3, h4⟩ := mapsTo I ry
    have rx' : Rp (P ++ O) H (.str k) v := rx
    cases rx'
    obtain ⟨t, rfl⟩ := ev
    cases eu
    refine wpAny_in_of (knd := mixKind X.prog X.w) (k := Sum.inr k) (mixKind_str _ _ _ _) h2 hdd.mapOf ?_
    have hb : (valueAt cs (Sum.inr k : Key)).isSome = (findT kvs k).isSome := by
      rcases valueAt_find (k := k) h3 h4 with ⟨z1, z2⟩ | ⟨d, v, u, z1, z2, _⟩ <;> rw [z1, z2] <;> rfl
    rw [hb]
    exact ⟨.bl _, H, I.tok _, rfl, q _ H (Same.refl H) (.bool _)⟩
  · cases e
noncomputable def NoCut (i : Expr) : Prop := ∀ ov iv, subscripted i false ov iv = operate [ov, iv] (getItem ov iv)
theorem px_get {o i : Expr} {fo fi : DS → M DV} {pos : Pos} (ho : PX X E o fo) (hi : PX X E i fi) (hs : NoCut i := by intro _ _; rfl) : PX X E (.Subscript o i pos) (e2 gGet fo fi) := by
  intro pins s σ H Q I h
  refine Subscript_ (thn (ho pins s σ H _ I (t2 h (t := fun v u H1 => ∃ O P x y r, (∀ a, a ∈ P ++ O → ∃ o, H a = some o) ∧ Same H H1 ∧ RE O P H H1 x v ∧ RE O P H H1 y u ∧ gGet x y = some r ∧ Fn E O P H H1 Q r) fun O P x y r v u H1 h1 h2 h3 h4 h5 h6 => ⟨O, P, x, y, r, h1, h2, h3, h4, h5, h6⟩)) fun ov s1 ⟨v, H1, I1, rv, q1⟩ => thn (hi pins s1 σ H1 _ I1 q1) fun iv s2 ⟨u, H2, I2, ru, q2⟩ => ?_)
  obtain ⟨O, P, x, y, r, h1, h2, h3, h4, h5, h6⟩ := q2
  unfold gGet at h5
  split at h5
  · rename_i kvs k
    obtain ⟨d, e1, e2⟩ := bd_op h5
    cases e2
    obtain ⟨a, cs, rfl, n1, hdd, kv, k3, k4⟩ := mapsTo I2 h3
    have ry' : Rp (P ++ O) H2 (.str k) u := h4
    cases ry'
    obtain ⟨t, rfl⟩ := ru
    cases rv
    rcases valueAt_find (k := k) k3 k4 with ⟨z1, z2⟩ | ⟨d', v', u', z1, z2, z3, z4⟩
    · rw [z1] at e1; cases e1
    · rw [z1] at e1
      cases e1
      have hT : s2.TypeIs (.ref a) "dict" := hdd.typeIs
      unfold subscriptTail
      refine wpAny_bind ?_
      rw [getitemInPython_of_ne hT.not_modules]
      refine wpAny_bind (wpAny_specialOf hT PySem.F.slot_dict_getitem.lookup ?_)
      have fin : wpAny (model X.prog X.w) X.A (subscripted i false (.ref a) (.str k t)) (fun r s₃ => wpAny (model X.prog X.w) X.A (letTemporaryGo o (.ref a) r >>= fun _ => pure r) (fun v s' => ∃ x H', Inv X pins σ H' s' ∧ RelV x v ∧ Q x H') X.xe s₃) X.xe s2 := by
        rw [hs (.ref a) (.str k t)]
        refine wpAny_operating (wpAny_getItem_of (knd := mixKind X.prog X.w) (k := Sum.inr k) (mixKind_str _ _ _ _) hdd.mapOf z2 (wpAny_bind (wpAny_letTemporaryGo (wpAny_pure ?_))))
        exact ⟨v', H2, I2.tok _, z4, h6 _ H2 (Same.refl H2) z3⟩
      first
        | exact wpAny_pure (wpAny_bind fin)
        | exact wpAny_bind (wpAny_pure (wpAny_bind fin))
        | exact wpAny_bind fin
  · cases h5
end
end L3
set_option Elab.async false
set_option linter.all false
set_option maxRecDepth 100000
set_option maxHeartbeats 4000000
set_option autoImplicit false
namespace L3
open PySem PySem.Spec L2
open PyProof.Rows hiding St
section
variable {X : Cx} {E : XK} {a b e o : Expr} {fa fb fo fe : DS → M DV} {pos : Pos}
theorem px_gs {x z : Str} (hm : ∃ t, X.mg x = some (.str z t)) (hz : PyData.strOk z = true) (hg : Gl X x := by rfl) (hd : (x == ("__debug__" : Str)) = false := by decide) : PX X E (.Name x pos) (eC (.str z)) := by
  obtain ⟨t, h⟩ := hm
  exact px_con (v := .str z) (pe_glob hg h ⟨t, rfl⟩ hd) fun _ _ => .str z hz
noncomputable def gIxC (x y : DV) : M DV := match x, y with
  | .d (.str z), .d (.int i) => bd (op (atI z.cps.toList i)) fun c => if z.length ≤ 1000000 ∧ PyData.strOk ⟨#[c]⟩ = true then rt (.d (.str ⟨#[c]⟩)) else none
  | _, _ => none
theorem px_ixC (ha : PX X E a fa) (hb : PX X E b fb) (hs : PlainIx b := by intro _ _; rfl) : PX X E (.Subscript a b pos) (e2 gIxC fa fb) := PE.mono (pe_ix ix_str ha hb hs) fun σ H Q q => t2 q fun O P x y r v u H1 dom s1 rx ry e q => by
  unfold gIxC at e
  split at e
  · rename_i z i
    obtain ⟨c, e1, e2⟩ := bd_op e
    split at e2
    · rename_i hc
      cases e2
      have rx' : Rp (P ++ O) H1 (.str z) v := rx
      have ry' : Rp (P ++ O) H1 (.int i) u := ry
      cases rx'
      cases ry'
      exact ⟨z, i, c, rfl, rfl, line_big hc.1, e1, q _ H1 (Same.refl H1) (.str _ hc.2)⟩
    · cases e2
  · cases e
noncomputable def asIF : DV → Option Int
  | .d (.int i) => if i.natAbs.log2 < 1920 ∧ (Str.empty ++ Str.ofString (toString i)).length ≤ 1000000 then some i else none
  | _ => none
noncomputable def gF2 (i : Int) (y : DV) : M DV := match y with
  | .d (.str z) => if z.length ≤ 1000000 ∧ (Str.empty ++ Str.ofString (toString i) ++ z).length ≤ 1000000 ∧ PyData.strOk (Str.empty ++ Str.ofString (toString i) ++ z) = true then rt (.d (.str (Str.empty ++ Str.ofString (toString i) ++ z))) else none
  | _ => none
noncomputable def eF2 (fa fb : DS → M DV) (δ : DS) : M DV := bd (fa δ) fun x => bd (op (asIF x)) fun i => bd (fb δ) fun y => gF2 i y
theorem asIF_get {x : DV} {i : Int} (h : asIF x = some i) : x = .d (.int i) ∧ i.natAbs.log2 < 1920 ∧ (Str.empty ++ Str.ofString (toString i)).length ≤ 1000000 := by
  unfold asIF at h
  split at h
  · split at h
    · rename_i hc
      cases h; exact ⟨rfl, hc⟩
    · cases h
  · cases h
theorem px_f2 {p1 p2 : Pos} (ha : PX X E a fa) (hb : PX X E b fb) : PX X E (.JoinedStr [.FormattedValue a (-1) none p1, .FormattedValue b (-1) none p2] pos) (eF2 fa fb) := by
  intro pins s σ H Q I h
  refine JoinedStr_many (joinParts_cons (FormattedValue_plain (thn (ha pins s σ H (fun v H1 => ∃ i, v = .int i ∧ i.natAbs.log2 < 1920 ∧ (Str.empty ++ Str.ofString (toString i)).length ≤ sizeLine ∧ tE E fb σ H1 fun u H2 => ∃ z, u = .str z ∧ z.length ≤ sizeLine ∧ (Str.empty ++ Str.ofString (toString i) ++ z).length ≤ sizeLine ∧ Q (.str (Str.empty ++ Str.ofString (toString i) ++ z)) H2) I
    (tE_bd (g := fun δ x => bd (op (asIF x)) fun i => bd (fb δ) fun y => gF2 i y) h fun O P δ x r v H1 rs rs1 s1 rx e q => ?_)) fun vv s1 ⟨v, H1, I1, rv, i, ev, hl, hz, q1⟩ => ?_)))
  · obtain ⟨i, h1, e'⟩ := bd_op e
    obtain ⟨rfl, h2, h3⟩ := asIF_get h1
    have rx' : Rp (P ++ O) H1 (.int i) v := rx
    cases rx'
    refine ⟨i, rfl, h2, line_big h3, ?_⟩
    rcases bd_cases e' with ⟨y, e1, e2⟩ | ⟨c, e1, e2⟩
    · refine ⟨O, P, δ, .ok y, rs1, e1, fun u H2 s2 ry => ?_⟩
      unfold gF2 at e2
      split at e2
      · rename_i z
        split at e2
        · rename_i hc
          cases e2
          have ry' : Rp (P ++ O) H2 (.str z) u := ry
          cases ry'
          exact ⟨z, rfl, line_big hc.1, line_big hc.2.1, q _ H2 s2 (.str _ hc.2.2)⟩
        · cases e2
      · cases e2
    · subst e2
      exact ⟨O, P, δ, .error c, rs1, e1, q⟩
  · subst ev
    obtain ⟨t, rfl⟩ := rv
    refine wpAny_formatField_int hl ⟨hz, ?_⟩
    refine joinParts_cons (FormattedValue_plain (thn (hb pins _ σ H1 _ (I1.tok _) q1) fun uu s2 ⟨u, H2, I2, ru, z, eu, z1, z2, q2⟩ => ?_))
    subst eu
    obtain ⟨t', rfl⟩ := ru
    have fin : ∀ (s' : Shared), Inv X pins σ H2 s' → (Str.empty ++ Str.ofString (toString i) ++ z).length ≤ sizeLine ∧ wpAny (model X.prog X.w) X.A (joinParts (Str.empty ++ Str.ofString (toString i) ++ z) []) (EP X pins σ Q) X.xe s' := fun s' I' => ⟨z2, joinParts_nil ⟨.str _, H2, I'.tok _, ⟨_, rfl⟩, q2⟩ z2⟩
    exact wpAny_formatField_str (fin _ I2) (fin _ (I2.tok _)) z1
noncomputable def asS : DV → Option Str
  | .d (.str z) => some z
  | _ => none
theorem asS_get {x : DV} {z : Str} (h : asS x = some z) : x = .d (.str z) := by
  unfold asS at h
  split at h
  · cases h; rfl
  · cases h
noncomputable def splitOk (z p : Str) : Bool := decide (z.length ≤ 1000000) && decide (p.length ≠ 0) && decide ((Builtin.Str.partsBetween z (Builtin.Str.occurrences z p 0 z.length (z.length + 1)) p.length).length ≤ 1000000) && decide ((Txt.split z p).length ≤ 1000000) && (Txt.split z p).all PyData.strOk
noncomputable def gSplit (z : Str) (y : DV) : M DV := match y with
  | .d (.str p) => if splitOk z p = true then rt (.new ((Txt.split z p).map PyData.str)) else none
  | _ => none
noncomputable def eSplit (fo fe : DS → M DV) (δ : DS) : M DV := bd (fo δ) fun x => bd (op (asS x)) fun z => bd (fe δ) fun y => gSplit z y
theorem strs_rel (l : List (Str × Tok)) : Vals (l.map fun p => V.str p.1) (strValues l) := by
  induction l with
  | nil => exact .nil
  | cons p l ih => exact .cons ⟨p.2, rfl⟩ ih
theorem strs_rp {Z : List Addr} {H : Hp} : ∀ {zs : List Str}, zs.all PyData.strOk = true → RpL Z H (zs.map PyData.str) (zs.map V.str)
  | [], _ => .nil
  | z :: zs, h => by
    rw [List.all_cons, Bool.and_eq_true] at h
    exact .cons (.str z h.1) (strs_rp h.2)
theorem split_laid {A : Around} {E' : Value → Shared → Prop} {s : Shared} {x y : Str} {t u : Tok} {prog : Program} {w : World} {Q : Value → Shared → Prop} (hy : (y.length == 0) = false)
    (hq : ∀ (l : List (Str × Tok)) (n tk : Nat), l.map (·.1) = Txt.split x y → Q (.ref s.heap.objs.size) { s with heap := s.heap.push { cls := .type "list", data := .seq (strValues l).toArray n }, toks := tk })
    (hsz : x.length ≤ sizeLine) (hsz2 : (Builtin.Str.partsBetween x (Builtin.Str.occurrences x y 0 x.length (x.length + 1)) y.length).length ≤ sizeLine) :
    wpAny (model prog w) A (call (.builtin "str.split") [.str x t, .str y u]) Q E' s := by
  have one : Txt.split x y = [x] → Q (.ref s.heap.objs.size) { s with heap := s.heap.push { cls := .type "list", data := .seq (strValues [(x, t)]).toArray } } := fun e => hq [(x, t)] _ _ e.symm
  cases h1 : (decide (x.length < y.length) || decide (Builtin.Str.strKind x < Builtin.Str.strKind y))
  · cases hf : (Builtin.Str.occurrences x y 0 x.length (x.length + 1)).isEmpty
    · refine call_meets PySem.F.slot_str_split (typeIs_str _ _ _) PySem.F.entry_str_split (PySem.F.args_str_split_2 _ _) (meets_str_split_sep x y t u h1 hy hf hsz hsz2) ?_
      have e : Txt.split x y = Builtin.Str.partsBetween x (Builtin.Str.occurrences x y 0 x.length (x.length + 1)) y.length := (if_neg (ne_true_of_eq_false h1)).trans (if_neg (ne_true_of_eq_false hf))
      show wants Q E' _ { s with toks := _, heap := s.heap.push { cls := .type "list", data := .seq (strsFrom s.toks (Builtin.Str.partsBetween x (Builtin.Str.occurrences x y 0 x.length (x.length + 1)) y.length)).toArray } }
      rw [strsFrom_eq]
      exact hq (numbered s.toks _) _ _ ((numbered_texts _ _).trans e.symm)
    · exact call_meets PySem.F.slot_str_split (typeIs_str _ _ _) PySem.F.entry_str_split (PySem.F.args_str_split_2 _ _) (meets_str_split_not_found x y t u h1 hy hf) (one ((if_neg (ne_true_of_eq_false h1)).trans (if_pos hf)))
  · exact call_meets PySem.F.slot_str_split (typeIs_str _ _ _) PySem.F.entry_str_split (PySem.F.args_str_split_2 _ _) (meets_str_split_cannot_occur x y t u h1) (one (if_pos h1))
noncomputable def rSplit (E : XK) (x : V) (vs : List V) (H : Hp) (Q : VK) : Prop := ∃ z p r, x = .str z ∧ vs = [.str p] ∧ splitOk z p = true ∧ r = ((Txt.split z p).map V.str) ∧ ∀ a, H a = none → Q (.ref a) (upd H a (.lst r))
theorem mt_split : MtR X "str.split" (rSplit E) := fun pins s σ H x xs v us Q I rx rs h => by
  obtain ⟨z, p, r, rfl, rfl, hok, rfl, q⟩ := h
  obtain ⟨u, rfl, ru⟩ := vals1 rs
  obtain ⟨t, rfl⟩ := rx
  obtain ⟨t', rfl⟩ := ru
  unfold splitOk at hok
  simp only [Bool.and_eq_true, decide_eq_true_eq] at hok
  obtain ⟨⟨⟨⟨o1, o2⟩, o3⟩, o4⟩, o5⟩ := hok
  refine split_laid (by simpa using o2) (fun l n tk el => ?_) (line_big o1) (line_big o3)
  refine ⟨.ref s.heap.objs.size, _, I.laid (a := s.heap.objs.size) (o := .lst ((Txt.split z p).map V.str)) (t' := tk) (fun _ _ q => Heap.get?_push_of_some _ q) (Nat.le_refl _) ⟨by rw [List.length_map]; exact line_big o4, strValues l, n, ?_, Heap.get?_push_size _ rfl⟩, rfl, q _ (I.hok.fresh (Nat.le_refl _))⟩
  rw [← el, List.map_map]
  exact strs_rel l
theorem px_split {apos cpos : Pos} (ho : PX X E o fo) (he : PX X E e fe)
    (hbase : attributeBase o "split" X.env (eval o X.env) = eval o X.env := by rfl)
    (hfew : ((backTo cpos (starEach [e] X.env)).all (fun x => !x.1) && (backToKw cpos (keywordEach [] X.env)).all (fun x => x.1.isSome)
      && decide ([e].length + ([] : List Keyword).length + (if ([] : List Keyword).isEmpty then 0 else 1) < 30)) = true := by rfl)
    (hline : (apos.endLine == cpos.line) = true := by rfl) (hs : starEach [e] X.env = (false, eval e X.env) :: starEach [] X.env := by rfl) (hplain : (backTo cpos (starEach [] X.env)).any (·.1) = false := by rfl) :
    PX X E (.Call (.Attribute o "split" apos) [e] [] cpos) (eSplit fo fe) :=
  PE.mono (pe_bm PySem.F.plainAttrs_str PySem.F.slot_str_split PySem.F.type_str_split (mt_split (E := E)) ho (pa_cons he pa_nil hs) hbase hfew hline hs hplain) fun σ H Q q =>
    tE_bd (g := fun δ x => bd (op (asS x)) fun z => bd (fe δ) fun y => gSplit z y) q fun O P δ x r v H1 rs rs1 s1 rx e q => by
      obtain ⟨z, h1, e'⟩ := bd_op e
      obtain rfl := asS_get h1
      have rx' : Rp (P ++ O) H1 (.str z) v := rx
      cases rx'
      refine ⟨rfl, ?_⟩
      rcases bd_cases e' with ⟨y, e1, e2⟩ | ⟨c, e1, e2⟩
      · refine ⟨O, P, δ, .ok y, rs1, e1, fun u H2 s2 ry => ?_⟩
        unfold gSplit at e2
        split at e2
        · rename_i p
          split at e2
          · rename_i hok
            cases e2
            have ry' : Rp (P ++ O) H2 (.str p) u := ry
            cases ry'
            refine ⟨z, p, _, rfl, rfl, hok, rfl, fun a ha => q _ _ (s2.trans (same_upd ha)) (RE.made (s1.trans s2) ha (strs_rp ?_))⟩
            unfold splitOk at hok
            simp only [Bool.and_eq_true] at hok
            exact hok.2
          · cases e2
        · cases e2
      · subst e2
        exact ⟨O, P, δ, .error c, rs1, e1, q⟩
noncomputable def truL (x : DV) : M Bool := bd (op (asL x)) fun ys => rt (!ys.isEmpty)
theorem pb_lst (h : PX X E e fe) (he : ∀ whole, isTrue e X.env whole = (do let v ← whole; standAt e.pos; holding [v] (truthy v)) := by intro _; rfl) : PB X E e (fun δ => bd (fe δ) truL) :=
  PT.mono (pt_truth h he) fun σ H Q q => tE_bdB (g := fun _ => truL) q fun O P δ x r v H1 rs rs1 s1 rx e' q' => by
    obtain ⟨ys, h1, h2⟩ := bd_op e'
    cases h2
    obtain ⟨a, ws, rfl, ha, l⟩ := rx.list h1
    refine ⟨!ys.isEmpty, .inl ⟨ws, SqL.of ha, ?_⟩, q' H1 (Same.refl H1)⟩
    cases l <;> rfl
noncomputable def eNo (_ : DS) : M DV := none
theorem px_no : PX X E e eNo := fun _ _ _ _ _ _ ⟨_, _, _, _, _, z, _⟩ => nomatch z
end
end L3
set_option Elab.async false
set_option linter.all false
set_option maxRecDepth 100000
set_option maxHeartbeats 4000000
set_option autoImplicit false
namespace L3
open PySem PySem.Spec L2 PySem.SeqAt PySem.MeetsSeq
open PyProof.Rows hiding St
noncomputable abbrev lstO (its : Array Value) (c : Nat) : Obj := { cls := .type "list", dict := none, data := .seq its c, slots := #[] }
noncomputable abbrev remS (l : Addr) (its : Array Value) (c : Nat) (x : Value) (q : Value → Bool) (j : Nat) : PySem.Spec := fun A R s => s.heap.get? l = some (lstO its c) ∧ (∀ y, y ∈ its → EqAt A.in1 s y x (q y)) ∧ R (.ok (.ret .none)) { s with heap := s.heap.update l (Obj.mapSeq fun zs => zs.eraseIdxIfInBounds j) }
theorem rem_loop (l : Addr) (its : Array Value) (c : Nat) (x : Value) (q : Value → Bool) (j : Nat) (hj : j < its.size) (yes : q its[j] = true) (hz : its.size ≤ sizeLine) : ∀ k i : Nat, j - i = k → i ≤ j → (∀ m (hm : m < its.size), i ≤ m → m < j → q its[m] = false) →
    Meets (Builtin.«list.remove.loop» ⟨[.ref l, x, rawInt i], []⟩) (remS l its c x q j) := by
  intro k
  induction k with
  | zero =>
    intro i k0 le no prog w A R s ⟨at_, eqs, fin⟩
    obtain ⟨hp, gs, dr, tk, os⟩ := s
    obtain rfl : i = j := by lia
    wp_walk using AutoSeq1.wpAny_loadPart' at_
    rw [show its[((i : Nat) : Int).toNat]? = some its[i] by simp [hj]]
    refine wpAny_bind (eqs _ (Array.getElem_mem hj) prog w _ _ ?_); rw [yes]
    have few : (its.eraseIdxIfInBounds i).size ≤ sizeLine + 1 := Nat.le_trans (size_erased its _) (Nat.le_succ_of_le hz)
    wp_walk using (wpAny_updateSeq at_ rfl (hz := hz) (_hz' := few)), AutoSeq1.wpAny_loadPart' at_
    simpa using fin
  | succ k ih =>
    intro i k1 le no prog w A R s ⟨at_, eqs, fin⟩
    obtain ⟨hp, gs, dr, tk, os⟩ := s
    have lt : i < its.size := by lia
    wp_walk using AutoSeq1.wpAny_loadPart' at_
    rw [show its[((i : Nat) : Int).toNat]? = some its[i] by simp [lt]]
    refine wpAny_bind (eqs _ (Array.getElem_mem lt) prog w _ _ ?_); rw [no i lt (Nat.le_refl _) (by lia)]
    wp_walk
    rw [show ((i : Int) + 1) = ((i + 1 : Nat) : Int) by push_cast; rfl]
    refine ⟨plainId_quiet plain_remove_loop _, codeAny_builtin entry_remove_loop ?_⟩
    rw [Around.under_plainId plain_remove_loop _]; exact ih (i + 1) (by lia) (by lia) (fun m hm h1 h2 => no m hm (by lia) h2) prog w A R _ ⟨at_, eqs, fin⟩
theorem rem_at (l : Addr) (its : Array Value) (c : Nat) (x : Value) (q : Value → Bool) (j : Nat) (hj : j < its.size) (yes : q its[j] = true) (no : ∀ m (hm : m < its.size), m < j → q its[m] = false) (hz : its.size ≤ sizeLine) : Meets (Builtin.«list.remove» ⟨[.ref l, x], []⟩) (remS l its c x q j) := by
  intro prog w A R s ⟨at_, eqs, fin⟩
  obtain ⟨hp, gs, dr, tk, os⟩ := s
  wp_walk using AutoSeq1.wpAny_loadPart' at_
  refine ⟨plainId_quiet plain_remove_loop _, codeAny_builtin entry_remove_loop ?_⟩
  rw [Around.under_plainId plain_remove_loop _]; exact rem_loop l its c x q j hj yes hz _ 0 rfl (Nat.zero_le _) (fun m hm _ h2 => no m hm h2) prog w A R _ ⟨at_, eqs, fin⟩
end L3
set_option Elab.async false
set_option linter.all false
set_option maxRecDepth 100000
set_option maxHeartbeats 4000000
set_option autoImplicit false
namespace L3
open PySem PySem.Spec L2 PySem.SeqAt PySem.MeetsSeq
open PyProof.Rows hiding St
section
variable {X : Cx} {E : XK} {e o : Expr} {f : DS → M DV} {pos : Pos}
noncomputable def rRem (x : V) (vs : List V) (H : Hp) (Q : VK) : Prop := ∃ O P H₀ l ys ws dy v d j, x = .ref l ∧ vs = [v] ∧ H l = some (.lst ws) ∧ RpL (P ++ O) H ys ws ∧ RE O P H₀ H dy v ∧ asQ dy = some d ∧ d.depth ≤ 60 ∧ ys.findIdx? (fun z => PyData.eqv z d) = some j ∧ Q .non (upd H l (.lst (ws.eraseIdx j)))
theorem mt_remove (hu : X.A.units + 64 < cLine) : MtR X "list.remove" rRem := fun pins s σ H x xs v us Q I rx rs h => by
  obtain ⟨O, P, H₀, a, ys, ws, dy, w, d, j, rfl, rfl, ha, l, r2, h2, hdp, hj, q⟩ := h
  obtain ⟨u, rfl, ru⟩ := vals1 rs
  cases rx
  obtain ⟨z, its, n, r, hl, e⟩ := I.lstM ha
  obtain ⟨⟨as, ra⟩, la⟩ := r2.reads I ru h2
  obtain ⟨bs, rb⟩ := RpL.reads I l r
  have hm : its.map (readOf s.heap) = ys := SeqAt.readsAll_map ys _ _ l.lay rb
  rw [List.findIdx?_eq_some_iff_getElem] at hj
  obtain ⟨hj1, hj2, hj3⟩ := hj
  subst hm
  have hj' : j < its.toArray.size := by simpa using hj1
  refine call_meets PySem.F.slot_list_remove ⟨_, e, rfl⟩ PySem.F.entry_list_remove (PySem.F.args_list_remove_2 _ _) (rem_at a its.toArray n u (fun y => PyData.eqv (readOf s.heap y) d) j hj' (by simpa using hj2) (fun m hm lt => by simpa using hj3 m lt) (by rw [List.size_toArray]; lia))
    ⟨e, SeqAt.items_eqAt (vs := its.toArray) rb ra l.lay la (by have := Nat.min_le_right (PyData.depthAll (its.map (readOf s.heap))) d.depth; lia), ?_⟩
  refine ⟨.non, _, I.lset (its' := its.eraseIdx j) ha e ?_ (r.eraseIdx j) ?_, rfl, q⟩
  · show its.toArray.eraseIdxIfInBounds j = (its.eraseIdx j).toArray
    rw [List.eraseIdxIfInBounds_toArray]
  · have := len_erase ws j
    lia
noncomputable def fRem (i : Nat) (f : DS → M DV) (δ : DS) : M Out := match δ[i]? with
  | some (some (.own xs)) => bd (f δ) fun x => bd (op (asQ x)) fun d => if d.depth ≤ 60 then bd (op (xs.findIdx? fun z => PyData.eqv z d)) fun j => rt (.nx (δ.set i (some (.own (xs.eraseIdx j))))) else none
  | _ => none
theorem RpL.erase {Z : List Addr} {H : Hp} : ∀ {xs : List D} {vs : List V} (j : Nat), RpL Z H xs vs → RpL Z H (xs.eraseIdx j) (vs.eraseIdx j)
  | _, _, _, .nil => by simp; exact .nil
  | _, _, 0, .cons p l => l
  | _, _, j + 1, .cons p l => .cons p (RpL.erase j l)
theorem st_rem {i : Nat} {apos cpos : Pos} (hu : X.A.units + 64 < cLine) (ho : PE X o (tVar i)) (he : PX X E e f)
    (hbase : attributeBase o "remove" X.env (eval o X.env) = eval o X.env := by rfl)
    (hfew : ((backTo cpos (starEach [e] X.env)).all (fun x => !x.1) && (backToKw cpos (keywordEach [] X.env)).all (fun x => x.1.isSome)
      && decide ([e].length + ([] : List Keyword).length + (if ([] : List Keyword).isEmpty then 0 else 1) < 30)) = true := by rfl)
    (hline : (apos.endLine == cpos.line) = true := by rfl) (hs : starEach [e] X.env = (false, eval e X.env) :: starEach [] X.env := by rfl) (hplain : (backTo cpos (starEach [] X.env)).any (·.1) = false := by rfl)
    (hsw : swapsWith (.Call (.Attribute o "remove" apos) [e] [] cpos) none pos.line X.env = pure false := by rfl) : PSt X E (.Expr (.Call (.Attribute o "remove" apos) [e] [] cpos) pos) (fRem i f) :=
  PS.mono (ps_expr (pe_bm PySem.F.plainAttrs_list PySem.F.slot_list_remove PySem.F.type_list_remove (mt_remove hu) ho (pa_cons he pa_nil hs) hbase hfew hline hs hplain) hsw) fun T σ H q => by
    obtain ⟨O, P, δ, r, rs, e, q⟩ := q
    unfold fRem at e
    split at e
    · rename_i xs ei
      obtain ⟨v, ev, _, a, vs, rfl, hP, ha, l⟩ := rs.at' i _ ei
      refine ⟨.ref a, ev, .inl ⟨rfl, _, SqL.of ha⟩, ?_⟩
      rcases bd_cases e with ⟨x, e1, e2⟩ | ⟨cx, e1, e2⟩
      · obtain ⟨d, e3, e4⟩ := bd_op e2
        split at e4
        · rename_i hz
          obtain ⟨j, e5, e6⟩ := bd_op e4
          cases e6
          refine ⟨O, P, δ, .ok x, rs, e1, fun u H1 s1 rx => ?_⟩
          have l1 := (l.kp (.same s1))
          obtain ⟨k, rs'⟩ := (rs.same s1).grow ei ev (l1.erase j) hP
          exact ⟨O, P, _, a, xs, vs, x, u, d, j, rfl, rfl, s1 a _ ha, l1, rx, e3, hz, e5, q σ _ P ((Kp.same s1).trans k) rs'⟩
        · cases e4
      · subst e2
        exact ⟨O, P, δ, .error cx, rs, e1, fun dx H' s => q dx H' P (.same s)⟩
    · cases e
end
end L3
set_option Elab.async false
set_option linter.all false
set_option maxRecDepth 100000
set_option maxHeartbeats 4000000
set_option autoImplicit false
namespace L3
open PySem PySem.Spec L2
open PyProof.Rows hiding St
noncomputable abbrev Cx.noisy (X : Cx) (A : Around) (e : Addr) (oe : Obj) : Cx := { X with A := A, calm := false, pn := [(e, oe)], xe := fun _ _ => False }
theorem inv_noisy {X : Cx} {σ : St} {H : Hp} {s : Shared} {A : Around} {e : Addr} {oe : Obj} (I : Inv X [] σ H s) (hA : A.frames = X.A.frames) (he : s.heap.get? e = some oe) (hn : H e = none) (nl : e ≠ X.env.locals) (nf : e ∉ X.fs) (nd : ∀ v, oe.data ≠ .cell v) : Inv (Cx.noisy X A e oe) [] σ H s :=
  ⟨⟨I.ok.mod, I.ok.kind, I.ok.glob, I.ok.blt, I.ok.above, I.ok.inj, I.ok.has, I.ok.cab, (fun z => nomatch z), hA.trans I.ok.frames, I.ok.stk, I.ok.exf, I.ok.bs, I.ok.bsz, I.ok.noex, I.ok.exfs, I.ok.funs, I.ok.frf⟩,
    I.os, I.bare, I.base, I.loc, I.cell, I.free, I.freeC, fun p hp => by
      have hp' : p = (e, oe) := by simpa using hp
      subst hp'
      exact ⟨he, hn, nl, nf, nd⟩, I.hok, I.len⟩
section
variable {K : PySem.W.Frag} {mg : Str → Option Value} {base : Heap} {P : Program} {w : World}
theorem which_run {x : Str} {st : Stmt} {f : Addr} {fd : FuncData} {N : List Str} {n0 : Str} {A0 A : Around} {outer : List Env} {s : Shared} {H : Hp} {e : Addr} {oe : Obj} {Q : VK} {F : DS → M Out} {d : D} {k : Nat} (Fu : Fun K x x st f fd) (S : FnScope N [n0] (defScope st))
    (hr : Room (k + 1) A0) (hf : A.frames = A0.frames) (hdp : A.depth = A0.depth) (hfd : ∀ env, (A.deeper env).frames = (A0.deeper env).frames) (e0 : Env0 P w K mg base A0 outer s H) (hb : BindsTo s fd ⟨[.ref e], []⟩ ([n0].zip [.ref e]))
    (he : s.heap.get? e = some oe) (hn : H e = none) (nf : e ∉ frs outer) (nd : ∀ v, oe.data ≠ .cell v)
    (body : ∀ (cdv : Value), PSd (Cx.noisy (cxOf CX0 P w K mg base N x (defScope st) f cdv A0 outer s H E0) (A.deeper (envOfC x (defScope st) s.heap.objs.size f cdv)) e oe) E0 (defBody st) F)
    (hF : F (dst N [.ex e]) = rt (.rt (.d d))) (hq : ∀ v H', Same H H' → Rp [] H' d v → Q v H') : codeAny (model P w) A (.call (.ref f) ⟨[.ref e], []⟩) (CR CX0 outer P w H s Q E0) s := by
  obtain ⟨oc, od, kV, doc, pm, an, cdv, ct, osl, rfl, lk, hcd⟩ := Fu.ex
  have KX : K.In s.heap := e0.mod.kin.keeps fun b o e => (e0.bs b o e).1
  have lim : s.heap.NoLimit := e0.mod.nolimit.keeps fun b o e => (e0.bs b o e).1
  have hkind : ∀ y ∈ [n0].zip [Value.ref e], (defScope st).names.lookup y.1 = some .local ∨ ((defScope st).names.lookup y.1 = some .cell ∧ ((cellsFrom (s.heap.objs.size + 1) (defScope st).names []).lookup y.1).isSome = true) := fun ⟨n, v⟩ hy => by
    rcases S.par n (List.of_mem_zip hy).1 with q | q
    · exact .inl q
    · exact .inr ⟨q, PySem.W.cellsFrom_some _ _ _ (.inl q)⟩
  refine codeAny_call_function (by rw [hdp]; exact hr.depth) (KX _ _ lk) rfl S.co S.gen rfl (PySem.W.codeRec_of KX hcd) (hb _ _ _ _ ?_)
  refine wpAny_newFunctionEnv_cells S.kind hkind fun env hen s1 y => ?_
  subst hen
  refine ⟨lim.keeps y.toInCall.keep, codeAny_func ?_⟩
  have I0 : Inv (cxOf CX0 P w K mg base N x (defScope st) f cdv A0 outer s H E0) [] (start N [.ref e]) H s1 := inv_start S hr.hd e0 rfl (.cons rfl .nil) y
  have lt : e < s.heap.objs.size := Heap.lt_size he
  have I1 := inv_noisy (A := A.deeper (envOfC x (defScope st) s.heap.objs.size f cdv)) I0 (hfd _) (y.toInCall.keep _ _ he) hn (Nat.ne_of_lt lt) nf nd
  refine wpAny_mono (body cdv [] s1 (start N [.ref e]) H { nx := fun _ H' => False, rt := Q } I1 ⟨[], [], dst N [.ex e], .ok (.rt (.d d)), RS.start (fun a ha => nomatch ha) (.cons rfl .nil), hF, ?_⟩) (fun fl s' hs => ?_) fun _ _ z => z.elim
  · intro v H1 H' P' k' s' _ _ ry
    obtain ⟨sH, ry'⟩ := ry.out k' s'
    exact hq v H' sH ry'
  · cases fl with
    | ret u =>
      obtain ⟨v, σ', H', J, rv, q⟩ := hs
      exact ⟨v, H', J.os, J.bare, J.base, J.hok, rv, q⟩
    | next => obtain ⟨_, _, _, q⟩ := hs; exact q.elim
    | brk => obtain ⟨_, _, _, q⟩ := hs; exact q.elim
    | cont => obtain ⟨_, _, _, q⟩ := hs; exact q.elim
end
end L3
set_option Elab.async false
set_option linter.all false
set_option maxRecDepth 100000
set_option maxHeartbeats 4000000
set_option autoImplicit false
namespace L3
open PySem PySem.Spec L2
open PyProof.Rows hiding St
open PySem.W (Looks)
section
variable {M : Model} {A : Around} {E : Value → Shared → Prop} {nm q : Str} {C D N : Addr} {bs bm : List Value} {hdct : Bool} {sn : List Str} {sub : List Value} {ab : Bool} {col : Option Bool} {dd : Option Addr} {k0 k1 k2 k3 k5 : Option Value} {newId : String}
theorem exc_sub {s : Shared} {e : Addr} {oe : Obj} {Q : Bool → Shared → Prop} (hC : s.heap.get? C = some (excClassObj nm q C N bs bm hdct sn sub ab col dd k0 k1 k2 k3 k5 newId)) (he : s.heap.get? e = some oe) (hcls : oe.cls = .ref D) (hbase : bm.contains (.type "BaseException") = true)
    (hs : Looks M s.heap (isSubtype (.ref D) (.ref C)) true) (hq : Q true s) : wpAny M A (excMatches (.ref e) (.ref C)) Q E s := by
  obtain ⟨h, g, d, t, os⟩ := s
  have isB : (Value.ref C :: bm).contains (.type "BaseException") = true := by rw [List.contains_cons, hbase, Bool.or_true]
  have no := tc_notTuple
  unfold excMatches
  repeat (first | (with_reducible refine Looks.at hs ?_) | (with_reducible refine wpAny_loadPart_at he ?_; rw [hcls]) | with_reducible refine wpAny_loadPart_at hC ?_ | (with_reducible refine wpAny_isSubtype_exc hC ?_; rw [isB]) | wp_step)
  exact hq
end
theorem sub_looks {M : Model} {h : Heap} {K : PySem.W.Frag} {D C : Addr} (X : K.In h) (q : PySem.W.kitOne K (.ref D) (.ref C) = some true) (ne : D ≠ C) : Looks M h (isSubtype (.ref D) (.ref C)) true := by
  have k : ¬ (Value.ref D == Value.ref C) = true := fun z => ne (Value.ref.inj (beq_iff_eq.mp z))
  have q' : PySem.W.kitCls K (.ref D) (.ref C) = some true := by
    unfold PySem.W.kitOne at q
    rw [if_neg k] at q; exact q
  exact (PySem.W.kit_cls (M := M) X q').2.2
noncomputable def fTryR (F : DS → M Out) (W : Value → Option Int) (δ : DS) : M Out := match F δ with
  | some (.ok o) => some (.ok o)
  | some (.error c) => bd (op (W c)) fun d => rt (.rt (.d (.int d)))
  | none => none
section
variable {X : Cx} {E : XK} {body : List Stmt} {F : DS → M Out} {cn n : Str} {C : Addr} {i : Nat} {ex : Expr} {np hpos rpos pos : Pos} {W : Value → Option Int}
theorem st_tryR (O : Xc X.K X.mg cn C) (hN : X.N.Nodup) (hb : ∀ pn W' E', Passes (CXR X.prog X.w) (Cx.tried X pn W') E' → PSd (Cx.tried X pn W') E' body F)
    (hw : ∀ c d, W c = some d → ∃ D, c = .ref D ∧ D ≠ C ∧ PySem.W.kitOne X.K (.ref D) (.ref C) = some true ∧
      ∀ e pn W' oe, oe.cls = .ref D → (e, oe) ∈ pn → PE (Cx.caught X e pn W') ex (fun σ H Q => σ[i]? = some (some (.ref e)) ∧ ∀ H', Same H H' → Q (.int d) H'))
    (hst : X.stack = X.env :: X.outer := by rfl) (hfm : X.env.frame = some X.env.locals := by rfl) (hg : Gl X cn := by rfl) (hi : X.N[i]? = some n := by rfl) (hloc : X.env.scope.names.lookup n = some .local := by rfl) (hfn : X.fn n = true := by rfl) (hd : (cn == ("__debug__" : Str)) = false := by decide) :
    PSt X E (.Try body [.ExceptHandler (some (.Name cn np)) (some n) [.Return (some ex) rpos] hpos] [] [] pos) (fTryR F W) := by
  intro pins s σ H T I q
  obtain ⟨O', P, δ, r, rs, e, q⟩ := q
  refine wpAny_Try_except ?_
  have pass : Passes (CXR X.prog X.w) (Cx.tried X pins fun e s₁ => wpAny (model X.prog X.w) X.A (noteFrame e X.env) (fun _ s₂ => wpAny (model X.prog X.w) X.A (setFlight e none) (fun _ s₃ =>
      wpAny (model X.prog X.w) X.A (handleBy e X.env [.ExceptHandler (some (.Name cn np)) (some n) [.Return (some ex) rpos] hpos]) (SP X pins T) X.xe s₃) X.xe s₂) X.xe s₁) (fun cls _ H' => ∃ d, W cls = some d ∧ ∀ H2, Same H' H2 → T.rt (.int d) H2) := by
    intro pins' σ' H1 s1 e s' I1 cx
    obtain ⟨x, cls, dx, H', B, a0, rfl, Fl, d, hWd, hT⟩ := cx
    obtain ⟨D, rfl, hne, hsub, hs⟩ := hw _ _ hWd
    have Fl : Fly X.prog X.w X.stack s1 H1 (.ref D) x H' B a0 s' := Fl
    have fr : X.A.frames = some (X.env :: X.outer) := by rw [← hst]; exact I.ok.frames
    refine wpAny_looks_onW (L := X.env.locals) fr hfm (hst ▸ Fl.fly) fun h4 hheld sm4 => ?_
    refine wpAny_landsW hheld fun h5 fl5 sm5 => ?_
    have F5 := Fl.go (hst.symm ▸ fl5) (sm4.trans sm5)
    have I5 : Inv X pins σ' H' { s' with heap := h5 } := inv_untried (Fly.inv I1 F5)
    obtain ⟨ob, hob, hobc⟩ := fl5.there
    refine wpAny_handleBy_cons (codeAny_handlers_test (ld_glob (X := Cx.caught X x pins X.xe) (inv_caught I5 X.xe x) hg O.bound ?_ hd)) (by intro z; cases z)
    obtain ⟨bm, N, nm, qn, bs, hdct, sn, sub, ab, col, dd, k0, k1, k2, k3, k5, mN, hC, hN', hni, Tl⟩ := exc_obj I5.ok.mod.kin O.ex
    refine exc_sub (s := { s' with heap := h5 }) (I5.bk _ _ hC) hob hobc (Tl.hasType PySem.F.excBase_ValueError.hasBase) (sub_looks I5.kIn hsub hne) (codeAny_handlers_suite_as ?_)
    refine lands_againW fl5 fun h6 fl6 sm6 => ?_
    have F6 := F5.go (hst.symm ▸ fl6) sm6
    have I6 : Inv X pins σ' H' { s' with heap := h6 } := inv_untried (Fly.inv I1 F6)
    obtain ⟨oe, vs, he, hec, hed, _⟩ := fl6.first
    have nfr : ∀ b, b ∈ frs X.stack → x ≠ b := fun b hbm z => by
      obtain ⟨_, o', e', hdd⟩ := I6.stack.mem hbm
      have e'' : h6.get? b = some o' := e'
      rw [← z, he] at e''
      cases e''
      exact hdd vs hed
    have I6' : Inv X ((x, oe) :: pins) σ' H' { s' with heap := h6 } := I6.pins_of fun p hp => by
      rcases List.mem_cons.mp hp with z | z
      · subst z
        refine ⟨he, Fl.free, fun z => nfr X.env.locals ?_ z, fun z => nfr x ?_ rfl, fun v z => ?_⟩
        · rw [hst]
          show X.env.locals ∈ frs (X.env :: X.outer)
          unfold frs
          rw [List.filterMap_cons, hfm]
          exact List.mem_cons_self
        · rw [hst]
          show x ∈ frs (X.env :: X.outer)
          unfold frs
          rw [List.filterMap_cons, hfm]
          exact List.mem_cons_of_mem _ z
        · rw [hed] at z; cases z
      · exact I6.pin p (List.mem_append_right _ z)
    refine store_ok (X := Cx.caught X x ((x, oe) :: pins) fun _ _ => False) (inv_caught I6' _ x) hN hi (.inl hloc) (v := .ref x) rfl (fun s7 I8 => ?_) (.inl hfn)
    have hlen : i < σ'.length := by rw [I6.len]; exact (List.getElem?_eq_some_iff.mp hi).1
    refine wpAny_mono (pss_one (ps_ret (hs x _ _ oe hec List.mem_cons_self)) [] s7 _ H' { nx := fun _ _ => False, rt := fun v H2 => T.rt v H2 } I8 ⟨by rw [List.getElem?_set_self hlen], hT⟩) (fun f s8 h8 => ?_) fun _ _ z => z.elim
    cases f with
    | next => obtain ⟨_, _, _, z⟩ := h8; exact z.elim
    | brk => obtain ⟨_, _, _, z⟩ := h8; exact z.elim
    | cont => obtain ⟨_, _, _, z⟩ := h8; exact z.elim
    | ret u =>
      obtain ⟨v, σ2, H2, I9, rv, hq⟩ := h8
      have I10 : Inv X pins σ2 H2 s8 := inv_uncaught I.ok I9
      obtain ⟨m, hm, _⟩ := I10.loc
      exact wpAny_nameGoes hloc hm (by rw [I.ok.kind]; rfl) fun h9 m9 hn9 hs9 => ⟨v, _, H2, inv_gone I10 hn9 hs9, rv, hq⟩
  have fin : ∀ r', F δ = some r' → FnS (fun cls _ H' => ∃ d, W cls = some d ∧ ∀ H2, Same H' H2 → T.rt (.int d) H2) O' P H T r' → wpAny (model X.prog X.w) X.A (execs body X.env) (fun f s1 => match f with | .next => wpAny (model X.prog X.w) X.A (execs [] X.env) (SP X pins T) X.xe s1 | f => SP X pins T f s1) (fun e s₁ => wpAny (model X.prog X.w) X.A (noteFrame e X.env) (fun _ s₂ => wpAny (model X.prog X.w) X.A (setFlight e none) (fun _ s₃ =>
      wpAny (model X.prog X.w) X.A (handleBy e X.env [.ExceptHandler (some (.Name cn np)) (some n) [.Return (some ex) rpos] hpos]) (SP X pins T) X.xe s₃) X.xe s₂) X.xe s₁) s := fun r' e' q' => by
    refine wpAny_mono (hb pins _ _ pass [] s σ H T (inv_tried I _) ⟨O', P, δ, r', rs, e', q'⟩) (fun f s1 h => ?_) fun _ _ z => z
    have h' := sp_untried h
    cases f with
    | next => exact wpAny_execs_nil h'
    | brk => exact h'
    | cont => exact h'
    | ret u => exact h'
  unfold fTryR at e
  split at e
  · rename_i o e'
    cases e
    refine fin (.ok o) e' ?_
    cases o <;> exact q
  · rename_i c e'
    obtain ⟨d, e1, e2⟩ := bd_op e
    cases e2
    refine fin (.error c) e' fun dx H' P' kp => ⟨d, e1, fun H2 s2 => ?_⟩
    have kp0 : Kp P H [] H' := ⟨kp.keep, fun a ha => nomatch ha⟩
    refine q (.int d) H' H2 [] kp0 s2 (fun a ha => ?_) (fun a ha => nomatch ha) (.int d)
    obtain ⟨o, eo⟩ := rs.dom a (List.mem_append_right _ (by simpa using ha))
    exact ⟨o, kp.keep a o (fun z => rs.apart a z (by simpa using ha)) eo⟩
  · cases e
end
end L3
set_option Elab.async false
set_option linter.all false
set_option maxRecDepth 100000
set_option maxHeartbeats 4000000
set_option autoImplicit false
namespace L3
open PySem PySem.Spec L2
open PyProof.Rows hiding St
section
variable {X : Cx} {E : XK} {e : Addr} {i : Nat} {b : Bool} {ex : Expr}
noncomputable def eIsE (i : Nat) (e : Addr) (b : Bool) (δ : DS) : M DV := match δ[i]? with
  | some (some (.ex q)) => if q = e then rt (.d (.bool b)) else none
  | _ => none
theorem px_tEx (h : PE X ex (tEx i e b)) : PX X E ex (eIsE i e b) := PE.mono h fun σ H Q q => by
  obtain ⟨O, P, δ, r, rs, e1, q⟩ := q
  unfold eIsE at e1
  split at e1
  · rename_i q' hq
    split at e1
    · rename_i he
      cases e1
      subst he
      obtain ⟨v, ev, _, rv⟩ := rs.at' i _ hq
      have rv' : v = .ref q' := rv
      subst rv'
      exact ⟨ev, q _ H (Same.refl H) (.bool b)⟩
    · cases e1
  · cases e1
end
section
variable {X : Cx} {E : XK} {o e : Expr} {fo fe : DS → M DV}
noncomputable def gIdx (x y : DV) : M DV := match asL x, asQ y with
  | some xs, some d => if d.depth ≤ 60 ∧ xs.length ≤ 1000000 then bd (op (xs.findIdx? fun z => PyData.eqv z d)) fun j => rt (.d (.int (j : Int))) else none
  | _, _ => none
noncomputable def eIdx (fo fe : DS → M DV) (δ : DS) : M DV := bd (fo δ) fun x => bd (op (asL x)) fun _ => bd (fe δ) fun y => gIdx x y
noncomputable def rIdx (E : XK) (x : V) (vs : List V) (H : Hp) (Q : VK) : Prop := ∃ O P H₀ dx dy v r, vs = [v] ∧ RE O P H₀ H dx x ∧ RE O P H₀ H dy v ∧ gIdx dx dy = some r ∧ Fn E O P H₀ H Q r
theorem mt_index (hu : X.A.units + 64 < cLine) : MtR X "list.index" (rIdx E) := fun pins s σ H x xs v us Q I rx rs h => by
  obtain ⟨O, P, H₀, dx, dy, w, r, rfl, r1, r2, e, q⟩ := h
  obtain ⟨u, rfl, ru⟩ := vals1 rs
  unfold gIdx at e
  split at e
  · rename_i ys d h1 h2
    split at e
    · rename_i hdp
      obtain ⟨j, hj, e'⟩ := bd_op e
      cases e'
      obtain ⟨a, ws, rfl, ha, l⟩ := r1.list h1
      cases rx
      obtain ⟨⟨as, ra⟩, la⟩ := r2.reads I ru h2
      obtain ⟨its, ri, pl, hz⟩ := I.list (SqL.of ha)
      obtain ⟨bs, rb⟩ := RpL.reads I l ri
      obtain ⟨⟨cls, dd, data, sl⟩, ho, hc, n, hd⟩ := pl.isList
      simp only at hc hd
      subst hc hd
      have hm : its.map (SeqAt.readOf s.heap) = ys := SeqAt.readsAll_map ys _ _ l.lay rb
      rw [List.findIdx?_eq_some_iff_getElem] at hj
      obtain ⟨hj1, hj2, hj3⟩ := hj
      subst hm
      have hj' : j < its.toArray.size := by simpa using hj1
      rw [List.length_map] at hdp
      have hjl : j < its.length := by simpa using hj1
      refine call_meets PySem.F.slot_list_index ⟨_, ho, rfl⟩ PySem.F.entry_list_index (PySem.F.args_list_index_2 _ _) (SeqAt.list_indexAt a its.toArray n dd sl u (fun y => PyData.eqv (SeqAt.readOf s.heap y) d) j hj' (by lia) (by simpa using hj2) (fun m hm lt => by simpa using hj3 m lt))
        ⟨ho, SeqAt.items_eqAt (vs := its.toArray) rb ra l.lay la (by have := Nat.min_le_right (PyData.depthAll (its.map (SeqAt.readOf s.heap))) d.depth; lia), ?_⟩
      exact ⟨.int _, H, I.tok _, ⟨_, rfl⟩, q _ H (Same.refl H) (.int _)⟩
    · cases e
  · cases e
theorem px_index {apos cpos : Pos} (hu : X.A.units + 64 < cLine) (ho : PX X E o fo) (he : PX X E e fe)
    (hbase : attributeBase o "index" X.env (eval o X.env) = eval o X.env := by rfl)
    (hfew : ((backTo cpos (starEach [e] X.env)).all (fun x => !x.1) && (backToKw cpos (keywordEach [] X.env)).all (fun x => x.1.isSome)
      && decide ([e].length + ([] : List Keyword).length + (if ([] : List Keyword).isEmpty then 0 else 1) < 30)) = true := by rfl)
    (hline : (apos.endLine == cpos.line) = true := by rfl) (hs : starEach [e] X.env = (false, eval e X.env) :: starEach [] X.env := by rfl) (hplain : (backTo cpos (starEach [] X.env)).any (·.1) = false := by rfl) :
    PX X E (.Call (.Attribute o "index" apos) [e] [] cpos) (eIdx fo fe) :=
  PE.mono (pe_bm PySem.F.plainAttrs_list PySem.F.slot_list_index PySem.F.type_list_index (mt_index (E := E) hu) ho (pa_cons he pa_nil hs) hbase hfew hline hs hplain) fun σ H Q q =>
    tE_bd (g := fun δ x => bd (op (asL x)) fun _ => bd (fe δ) fun y => gIdx x y) q fun O P δ x r v H1 rs rs1 s1 rx e q => by
      obtain ⟨ys, h1, e⟩ := bd_op e
      obtain ⟨a, ws, rfl, ha, _⟩ := rx.list h1
      refine ⟨.inl ⟨rfl, _, SqL.of ha⟩, ?_⟩
      rcases bd_cases e with ⟨y, e1, e2⟩ | ⟨c, e1, e2⟩
      · exact ⟨O, P, δ, .ok y, rs1, e1, fun u H2 s2 ry => ⟨O, P, H, x, y, u, r, rfl, rx.on s2, ry.from s1, e2, q.on s2⟩⟩
      · subst e2
        exact ⟨O, P, δ, .error c, rs1, e1, q⟩
end
section
variable {X : Cx} {e : Addr} {oe : Obj} {pn : List (Addr × Obj)} {W : Value → Shared → Prop} {i : Nat} {n x n0 : Str} {st : Stmt} {N : List Str} {F : DS → M Out} {d : Int} {k : Nat} {p p1 pos : Pos}
theorem pe_which (D : Df X.K X.mg x st [n0]) (S : FnScope N [n0] (defScope st)) (hr : Room (k + 1) X.A) (hp : (e, oe) ∈ pn) (hn : PE (Cx.caught X e pn W) (.Name n p1) (tVar i))
    (body : ∀ f cdv outer s H, PSd (Cx.noisy (cxOf CX0 X.prog X.w X.K X.mg X.base N x (defScope st) f cdv X.A outer s H E0) ((X.A.mark (some (.ref e))).deeper (envOfC x (defScope st) s.heap.objs.size f cdv)) e oe) E0 (defBody st) F)
    (hF : F (dst N [.ex e]) = rt (.rt (.d (.int d)))) (hg : Gl X x := by rfl) (hdb : (x == ("__debug__" : Str)) = false := by decide)
    (he : starEach [.Name n p1] (Cx.caught X e pn W).env = (false, eval (.Name n p1) (Cx.caught X e pn W).env) :: starEach [] (Cx.caught X e pn W).env := by rfl) (hpl : (backTo pos (starEach [] (Cx.caught X e pn W).env)).any (·.1) = false := by rfl) :
    PE (Cx.caught X e pn W) (.Call (.Name x p) [.Name n p1] [] pos) (fun σ H Q => σ[i]? = some (some (.ref e)) ∧ ∀ H', Same H H' → Q (.int d) H') := by
  intro pins s σ H Q I h
  obtain ⟨f, fd, Fu, hm, hb⟩ := D
  refine wpAny_Call_Name_kw (ld_glob I hg hm ?_ hdb)
  refine PySem.W.callWith_K (h₀ := X.base) I.ok.mod.kin Fu.kp (thn ((pa_cons hn pa_nil he) pos pins s σ H (fun vs H1 => vs = [.ref e] ∧ H1 = H) I ⟨.ref e, h.1, rfl, rfl⟩) fun us s1 ⟨vs, H1, I1, r, ev, eH⟩ => ⟨I1.kIn, ?_⟩) he hpl
  subst ev eH
  obtain ⟨u, rfl, ru⟩ := vals1 r
  cases ru
  obtain ⟨g, hn', nl, nf, nd⟩ := I1.pin (e, oe) (List.mem_append_left _ (List.mem_append_right _ hp))
  have e0 := I1.env0
  have e0' : Env0 X.prog X.w X.K X.mg X.base X.A X.stack s1 H1 := ⟨e0.frames, e0.mod, e0.bs, e0.bsz, e0.funs, e0.frf, e0.hok, e0.bare⟩
  have nfs : e ∉ frs X.stack := by
    rcases I1.ok.stk with z | ⟨z, zf⟩
    · have z' : X.stack = X.outer := z
      rw [z']; exact nf
    · have z' : X.stack = X.env :: X.outer := z
      rw [z']
      unfold frs
      rw [List.filterMap_cons, zf]
      intro hm'
      rcases List.mem_cons.mp hm' with q | q
      · exact nl q
      · exact nf q
  refine wpAny_call (codeAny_mono (which_run (Q := Q) (d := .int d) Fu S hr rfl rfl (fun _ => rfl) e0' (hb s1 [.ref e] I1.kIn rfl) g hn' nfs nd (fun cdv => body f cdv X.stack s1 H1) hF fun v H' sH rv => ?_) fun r s' hq => ?_)
  · cases rv
    exact h.2 H' sH
  · cases r with
    | error e => exact False.elim hq
    | ok fl =>
      cases fl with
      | ret u => exact I1.after hq
      | next => exact False.elim hq
      | brk => exact False.elim hq
      | cont => exact False.elim hq
end
end L3
set_option Elab.async false
set_option linter.all false
set_option maxRecDepth 100000
set_option maxHeartbeats 4000000
set_option autoImplicit false
namespace L3
open PySem PySem.Spec L2
open PyProof.Rows hiding St
section
variable {M : Model} {A : Around} {E : Value → Shared → Prop} {s : Shared} {κ : SortKind} {key : Keyed → List Int} {P : Keyed → Prop}
end
end L3
set_option Elab.async false
set_option linter.all false
set_option maxRecDepth 100000
set_option maxHeartbeats 4000000
set_option autoImplicit false
namespace L3
open PySem PySem.Spec L2
open PyProof.Rows hiding St
noncomputable def Le (key : Keyed → List Int) (x y : Keyed) : Prop := ll (key y) (key x) = false
section
variable {key : Keyed → List Int}
theorem Le.refl (x : Keyed) : Le key x x := ll_irr _
theorem Le.trans {x y z : Keyed} (h1 : Le key x y) (h2 : Le key y z) : Le key x z := nl_trans h1 h2
noncomputable def SegS (key : Keyed → List Int) (arr : Array Keyed) (lo hi : Nat) : Prop := ∀ i j x y, lo ≤ i → i ≤ j → j < hi → arr[i]? = some x → arr[j]? = some y → Le key x y
structure MI (key : Keyed → List Int) (la lb o ra rb : List Keyed) : Prop where
  perm : (o ++ (ra ++ rb)).Perm (la ++ lb)
  so : o.Pairwise (Le key)
  sa : ra.Pairwise (Le key)
  sb : rb.Pairwise (Le key)
  oa : ∀ x ∈ o, ∀ y ∈ ra, Le key x y
  ob : ∀ x ∈ o, ∀ y ∈ rb, Le key x y
noncomputable def MOk (key : Keyed → List Int) (la lb r : List Keyed) : Prop := r.Perm (la ++ lb) ∧ r.Pairwise (Le key)
theorem MI.a {la lb o c ra rb : List Keyed} (h : MI key la lb o (c ++ ra) rb) (hc : ∀ x ∈ c, ∀ y ∈ rb, Le key x y) : MI key la lb (o ++ c) ra rb := by
  obtain ⟨p, so, sa, sb, oa, ob⟩ := h
  obtain ⟨s1, s2, s3⟩ := List.pairwise_append.mp sa
  refine ⟨?_, List.pairwise_append.mpr ⟨so, s1, fun x hx y hy => oa x hx y (List.mem_append_left _ hy)⟩, s2, sb, fun x hx y hy => ?_, fun x hx y hy => ?_⟩
  · simpa using p
  · rcases List.mem_append.mp hx with q | q
    · exact oa x q y (List.mem_append_right _ hy)
    · exact s3 x q y hy
  · rcases List.mem_append.mp hx with q | q
    · exact ob x q y hy
    · exact hc x q y hy
theorem MI.b {la lb o c ra rb : List Keyed} (h : MI key la lb o ra (c ++ rb)) (hc : ∀ x ∈ c, ∀ y ∈ ra, Le key x y) : MI key la lb (o ++ c) ra rb := by
  obtain ⟨p, so, sa, sb, oa, ob⟩ := h
  obtain ⟨s1, s2, s3⟩ := List.pairwise_append.mp sb
  refine ⟨?_, List.pairwise_append.mpr ⟨so, s1, fun x hx y hy => ob x hx y (List.mem_append_left _ hy)⟩, sa, s2, fun x hx y hy => ?_, fun x hx y hy => ?_⟩
  · refine List.Perm.trans ?_ p
    have : (c ++ (ra ++ rb)).Perm (ra ++ (c ++ rb)) := by
      rw [← List.append_assoc, ← List.append_assoc]
      exact List.perm_append_comm.append_right _
    rw [List.append_assoc]
    exact this.append_left o
  · rcases List.mem_append.mp hx with q | q
    · exact oa x q y hy
    · exact hc x q y hy
  · rcases List.mem_append.mp hx with q | q
    · exact ob x q y (List.mem_append_right _ hy)
    · exact s3 x q y hy
theorem MI.ab {la lb o ra rb : List Keyed} (h : MI key la lb o ra rb) (hc : ∀ x ∈ ra, ∀ y ∈ rb, Le key x y) : MOk key la lb (o ++ ra ++ rb) := by
  have h1 : MI key la lb (o ++ ra) [] rb := MI.a (by simpa using h) hc
  have h2 : MI key la lb (o ++ ra ++ rb) [] [] := MI.b (by simpa using h1) (fun _ _ _ hy => nomatch hy)
  exact ⟨by simpa using h2.perm, h2.so⟩
end
structure Sm (st st' : SortSt) : Prop where
  kind : kindOf st' = kindOf st
  arr : arrOf st' = arrOf st
  pend : pendingOf st' = pendingOf st
  failed : failedOf st' = failedOf st
theorem Sm.refl (st : SortSt) : Sm st st := ⟨rfl, rfl, rfl, rfl⟩
theorem Sm.trans {a b c : SortSt} (h1 : Sm a b) (h2 : Sm b c) : Sm a c := ⟨h2.kind.trans h1.kind, h2.arr.trans h1.arr, h2.pend.trans h1.pend, h2.failed.trans h1.failed⟩
section
variable {M : Model} {A : Around} {E : Value → Shared → Prop} {s : Shared} {κ : SortKind} {key : Keyed → List Int} {P : Keyed → Prop}
end
end L3
set_option Elab.async false
set_option linter.all false
set_option maxRecDepth 100000
set_option maxHeartbeats 4000000
set_option autoImplicit false
namespace L3
open PySem PySem.Spec L2
open PyProof.Rows hiding St
section
variable {M : Model} {A : Around} {E : Value → Shared → Prop} {s : Shared} {κ : SortKind} {key : Keyed → List Int} {P : Keyed → Prop}
end
end L3
set_option Elab.async false
set_option linter.all false
set_option maxRecDepth 100000
set_option maxHeartbeats 4000000
set_option autoImplicit false
namespace L3
open PySem PySem.Spec L2
open PyProof.Rows hiding St
section
variable {key : Keyed → List Int}
structure MH (key : Keyed → List Int) (la lb o ra rb : List Keyed) : Prop where
  perm : (ra ++ rb ++ o).Perm (la ++ lb)
  so : o.Pairwise (Le key)
  sa : ra.Pairwise (Le key)
  sb : rb.Pairwise (Le key)
  ao : ∀ x ∈ ra, ∀ y ∈ o, Le key x y
  bo : ∀ x ∈ rb, ∀ y ∈ o, Le key x y
theorem MH.b {la lb o c ra rb : List Keyed} (h : MH key la lb o ra (rb ++ c)) (hc : ∀ x ∈ c, ∀ y ∈ ra, Le key y x) : MH key la lb (c ++ o) ra rb := by
  obtain ⟨p, so, sa, sb, ao, bo⟩ := h
  obtain ⟨s1, s2, s3⟩ := List.pairwise_append.mp sb
  refine ⟨by simpa using p, List.pairwise_append.mpr ⟨s2, so, fun x hx y hy => bo x (List.mem_append_right _ hx) y hy⟩, sa, s1, fun x hx y hy => ?_, fun x hx y hy => ?_⟩
  · rcases List.mem_append.mp hy with q | q
    · exact hc y q x hx
    · exact ao x hx y q
  · rcases List.mem_append.mp hy with q | q
    · exact s3 x hx y q
    · exact bo x (List.mem_append_left _ hx) y q
theorem MH.a {la lb o c ra rb : List Keyed} (h : MH key la lb o (ra ++ c) rb) (hc : ∀ x ∈ c, ∀ y ∈ rb, Le key y x) : MH key la lb (c ++ o) ra rb := by
  obtain ⟨p, so, sa, sb, ao, bo⟩ := h
  obtain ⟨s1, s2, s3⟩ := List.pairwise_append.mp sa
  refine ⟨?_, List.pairwise_append.mpr ⟨s2, so, fun x hx y hy => ao x (List.mem_append_right _ hx) y hy⟩, s1, sb, fun x hx y hy => ?_, fun x hx y hy => ?_⟩
  · refine List.Perm.trans ?_ p
    have : (rb ++ c).Perm (c ++ rb) := List.perm_append_comm
    have e1 : ra ++ rb ++ (c ++ o) = ra ++ ((rb ++ c) ++ o) := by simp
    have e2 : ra ++ c ++ rb ++ o = ra ++ ((c ++ rb) ++ o) := by simp
    rw [e1, e2]
    exact (this.append_right o).append_left ra
  · rcases List.mem_append.mp hy with q | q
    · exact s3 x hx y q
    · exact ao x (List.mem_append_left _ hx) y q
  · rcases List.mem_append.mp hy with q | q
    · exact hc y q x hx
    · exact bo x hx y q
theorem MH.ab {la lb o ra rb : List Keyed} (h : MH key la lb o ra rb) (hc : ∀ x ∈ ra, ∀ y ∈ rb, Le key x y) : MOk key la lb (ra ++ rb ++ o) := by
  have h1 : MH key la lb (rb ++ o) ra [] := MH.b (by simpa using h) (fun x hx y hy => hc y hy x hx)
  have h2 : MH key la lb (ra ++ (rb ++ o)) [] [] := MH.a (by simpa using h1) (fun _ _ _ hy => nomatch hy)
  exact ⟨by simpa using h2.perm, by simpa using h2.so⟩
end
section
variable {M : Model} {A : Around} {E : Value → Shared → Prop} {s : Shared} {κ : SortKind} {key : Keyed → List Int} {P : Keyed → Prop}
end
end L3
set_option Elab.async false
set_option linter.all false
set_option maxRecDepth 100000
set_option maxHeartbeats 4000000
set_option autoImplicit false
namespace L3
open PySem PySem.Spec L2
open PyProof.Rows hiding St
noncomputable def kA (key : Keyed → List Int) (arr : Array Keyed) (i : Nat) : List Int := match arr[i]? with
  | some x => key x
  | none => []
structure Fr (lo hi : Nat) (st st' : SortSt) : Prop where
  kind : kindOf st' = kindOf st
  pend : pendingOf st' = pendingOf st
  failed : failedOf st' = failedOf st
  perm : (arrOf st').Perm (arrOf st)
  same : ∀ i, (i < lo ∨ hi ≤ i) → (arrOf st')[i]? = (arrOf st)[i]?
theorem Fr.refl {lo hi : Nat} (st : SortSt) : Fr lo hi st st := ⟨rfl, rfl, rfl, Array.Perm.refl _, fun _ _ => rfl⟩
theorem Fr.trans {lo hi : Nat} {a b c : SortSt} (h1 : Fr lo hi a b) (h2 : Fr lo hi b c) : Fr lo hi a c :=
  ⟨h2.kind.trans h1.kind, h2.pend.trans h1.pend, h2.failed.trans h1.failed, h2.perm.trans h1.perm, fun i hi => (h2.same i hi).trans (h1.same i hi)⟩
theorem Fr.size {lo hi : Nat} {a b : SortSt} (h : Fr lo hi a b) : (arrOf b).size = (arrOf a).size := h.perm.size_eq
section
variable {key : Keyed → List Int}
noncomputable def Up2 (key : Keyed → List Int) (arr : Array Keyed) (lo hi : Nat) : Prop := ∀ i j, lo ≤ i → i ≤ j → j < hi → ll (kA key arr j) (kA key arr i) = false
noncomputable def Dn2 (key : Keyed → List Int) (arr : Array Keyed) (lo hi : Nat) : Prop := ∀ i j, lo ≤ i → i ≤ j → j < hi → ll (kA key arr i) (kA key arr j) = false
theorem SegS.congr {a b : Array Keyed} {lo hi : Nat} (h : SegS key a lo hi) (e : ∀ i, lo ≤ i → i < hi → b[i]? = a[i]?) : SegS key b lo hi := fun i j x y h1 h2 h3 ex ey =>
  h i j x y h1 h2 h3 (by rw [← e i h1 (by lia)]; exact ex) (by rw [← e j (by lia) h3]; exact ey)
theorem Up2.step {arr : Array Keyed} {lo x : Nat} (h : Up2 key arr lo x) (hl : lo < x) (c : ll (kA key arr x) (kA key arr (x - 1)) = false) : Up2 key arr lo (x + 1) := fun i j h1 h2 h3 => by
  by_cases hj : j < x
  · exact h i j h1 h2 hj
  · have : j = x := by lia
    subst this
    by_cases hi : i = j
    · subst hi; exact ll_irr _
    · exact nl_trans (h i (j - 1) h1 (by lia) (by lia)) c
theorem Dn2.step {arr : Array Keyed} {lo x : Nat} (h : Dn2 key arr lo x) (hl : lo < x) (c : ll (kA key arr (x - 1)) (kA key arr x) = false) : Dn2 key arr lo (x + 1) := fun i j h1 h2 h3 => by
  by_cases hj : j < x
  · exact h i j h1 h2 hj
  · have : j = x := by lia
    subst this
    by_cases hi : i = j
    · subst hi; exact ll_irr _
    · exact nl_trans c (h i (j - 1) h1 (by lia) (by lia))
theorem Dn2.congr {a b : Array Keyed} {lo hi : Nat} (h : Dn2 key a lo hi) (e : ∀ k, kA key b k = kA key a k) : Dn2 key b lo hi := fun i j h1 h2 h3 => by rw [e, e]; exact h i j h1 h2 h3
end
section
variable {M : Model} {A : Around} {E : Value → Shared → Prop} {s : Shared} {κ : SortKind} {key : Keyed → List Int} {P : Keyed → Prop}
theorem Fr.allP {lo hi : Nat} {a b : SortSt} (h : Fr lo hi a b) (hP : ∀ x ∈ (arrOf a).toList, P x) : ∀ x ∈ (arrOf b).toList, P x := fun x hx => hP x ((Array.perm_iff_toList_perm.mp h.perm).mem_iff.mp hx)
end
end L3
set_option Elab.async false
set_option linter.all false
set_option maxRecDepth 100000
set_option maxHeartbeats 4000000
set_option autoImplicit false
namespace L3
open PySem PySem.Spec L2
open PyProof.Rows hiding St
section
variable {M : Model} {A : Around} {E : Value → Shared → Prop} {s : Shared} {κ : SortKind} {key : Keyed → List Int} {P : Keyed → Prop}
end
end L3
set_option Elab.async false
set_option linter.all false
set_option maxRecDepth 100000
set_option maxHeartbeats 4000000
set_option autoImplicit false
namespace L3
open PySem PySem.Spec L2
open PyProof.Rows hiding St
noncomputable abbrev Pn := Nat × Nat × Nat
noncomputable def Chain : List Pn → Nat → Nat → Prop
  | [], lo, hi => lo = hi
  | (s, n, _) :: r, lo, hi => s = lo ∧ 0 < n ∧ Chain r (lo + n) hi
theorem Chain.le : ∀ {l : List Pn} {lo hi : Nat}, Chain l lo hi → lo ≤ hi
  | [], _, _, h => Nat.le_of_eq h
  | (_, n, _) :: _, _, _, h => Nat.le_trans (Nat.le_add_right _ n) (Chain.le h.2.2)
theorem Chain.len : ∀ {l : List Pn} {lo hi : Nat}, Chain l lo hi → lo + l.length ≤ hi
  | [], _, _, h => Nat.le_of_eq h
  | (_, n, _) :: r, lo, hi, h => by
    have := Chain.len h.2.2
    have := h.2.1
    simp only [List.length_cons]; lia
theorem Chain.split : ∀ {l r : List Pn} {lo hi : Nat}, Chain (l ++ r) lo hi → ∃ m, Chain l lo m ∧ Chain r m hi
  | [], _, lo, _, h => ⟨lo, rfl, h⟩
  | (s, n, p) :: l, r, lo, hi, h => by
    obtain ⟨m, h1, h2⟩ := Chain.split (l := l) h.2.2
    exact ⟨m, ⟨h.1, h.2.1, h1⟩, h2⟩
theorem Chain.app : ∀ {l r : List Pn} {lo m hi : Nat}, Chain l lo m → Chain r m hi → Chain (l ++ r) lo hi
  | [], _, _, _, _, h1, h2 => by cases h1; exact h2
  | (s, n, p) :: l, r, lo, m, hi, h1, h2 => ⟨h1.1, h1.2.1, Chain.app h1.2.2 h2⟩
theorem Chain.mem : ∀ {l : List Pn} {lo hi : Nat}, Chain l lo hi → ∀ p ∈ l, lo ≤ p.1 ∧ 0 < p.2.1 ∧ p.1 + p.2.1 ≤ hi
  | [], _, _, _, _, hp => nomatch hp
  | (s, n, q) :: r, lo, hi, h, p, hp => by
    rcases List.mem_cons.mp hp with e | e
    · subst e
      have := Chain.le h.2.2
      exact ⟨Nat.le_of_eq h.1.symm, h.2.1, by show s + n ≤ hi; rw [h.1]; exact this⟩
    · have := Chain.mem h.2.2 p e
      exact ⟨by lia, this.2.1, this.2.2⟩
structure RnS (key : Keyed → List Int) (κ : SortKind) (a₀ : Array Keyed) (lo : Nat) (st : SortSt) : Prop where
  kind : kindOf st = κ
  failed : failedOf st = none
  perm : (arrOf st).Perm a₀
  chain : Chain (pendingOf st).toList 0 lo
  segs : ∀ p ∈ (pendingOf st).toList, SegS key (arrOf st) p.1 (p.1 + p.2.1)
section
variable {M : Model} {A : Around} {E : Value → Shared → Prop} {s : Shared} {κ : SortKind} {key : Keyed → List Int} {P : Keyed → Prop} {a₀ : Array Keyed}
theorem RnS.size {lo : Nat} {st : SortSt} (h : RnS key κ a₀ lo st) : (arrOf st).size = a₀.size := h.perm.size_eq
theorem RnS.allP {lo : Nat} {st : SortSt} (h : RnS key κ a₀ lo st) (hP : ∀ x ∈ a₀.toList, P x) : ∀ x ∈ (arrOf st).toList, P x := fun x hx => hP x ((Array.perm_iff_toList_perm.mp h.perm).mem_iff.mp hx)
end
end L3
set_option Elab.async false
set_option linter.all false
set_option maxRecDepth 100000
set_option maxHeartbeats 4000000
set_option autoImplicit false
namespace L3
open PySem PySem.Spec L2
open PyProof.Rows hiding St
end L3
set_option Elab.async false
set_option linter.all false
set_option maxRecDepth 100000
set_option maxHeartbeats 4000000
set_option autoImplicit false
namespace L3
open PySem PySem.Spec L2
open PyProof.Rows hiding St
section
variable {prog : Program} {w : World} {A : Around} {E : Value → Shared → Prop} {s : Shared}
end
end L3
set_option Elab.async false
set_option linter.all false
set_option maxRecDepth 100000
set_option maxHeartbeats 4000000
set_option autoImplicit false
namespace L3
open PySem PySem.Spec L2
open PyProof.Rows hiding St
open Classical in
open Classical in
section
variable {X : Cx} {E : XK}
end
end L3
set_option Elab.async false
set_option linter.all false
set_option maxRecDepth 100000
set_option maxHeartbeats 4000000
set_option autoImplicit false
namespace L3
open PySem PySem.Spec L2
open PyProof.Rows hiding St
section
variable {X : Cx} {E : XK} {tg e : Expr} {f : DS → M DV}
end
section
variable {X : Cx} {E : XK} {k : Nat} {js : List Nat} {N' : List Str} {scope : Scope} {elt tg iter : Expr} {ifs : List Expr} {pos : Pos} {fi : DS → M (List D)} {g : TG} {sf : D → DS → Option DS} {gc : DS → M Bool} {fe : DS → M DV}
end
end L3
set_option Elab.async false
set_option linter.all false
set_option maxRecDepth 100000
set_option maxHeartbeats 1000000
set_option autoImplicit false
namespace LW
open PySem PySem.Spec L2 L3
noncomputable def good (m c : Int) : Bool := decide (3 ≤ m) && decide (m ≤ 13) && (decide (1 ≤ c) && decide (c ≤ 4))
noncomputable def eMkH (C CB : Addr) (fr : DS → M (List DV)) : DS → M DV := eCb (mkH C CB good "most" "colours") fr
noncomputable def F_is_tile (C : Addr) : DS → M Out := (fRet (eAnd (eCh gLeD gLeD (eC (.int 1)) (e2 gIx (eVar 1) (eC (.int 0))) (eFld C "most" (eVar 0))) (eCh gLeD gLtD (eC (.int 0)) (e2 gIx (eVar 1) (eC (.int 1))) (eFld C "colours" (eVar 0)))))
noncomputable def M_is_tile (C : Addr) : List DV → M DV := mir ["house", "tile"] (F_is_tile C)
noncomputable def F_is_in_order : DS → M Out := (fRet (eCb gAll (aCons (eComp 1 [0] (iR2 (aCons (eC (.int 1)) (aCons (eCb gLen (aCons (eVar 0) aNil)) aNil))) (sName 0) bYes (e2 gLeD (e2 gIx (eVar 1) (e2 gSub (eVar 0) (eC (.int 1)))) (e2 gIx (eVar 1) (eVar 0)))) aNil)))
noncomputable def M_is_in_order : List DV → M DV := mir ["row"] (F_is_in_order)
noncomputable def F_is_hand (C : Addr) : DS → M Out := (fSq (fIf (bOr (fun δ => bd (e2 gGt (eCb gLen (aCons (eVar 1) aNil)) (eC (.int 12)) δ) tru) (bNot (fun δ => bd (eCh gLeD gLeD (eC (.int 0)) (eVar 2) (eC (.int 2)) δ) tru))) (fRet (eC (.bool false))) fNil) (fSq (fIf (bNot (fun δ => bd ((eCb gAll (aCons (eComp 1 [0, 1] (iLs (eVar 1)) (sName 0) bYes (eAnd (eCb (gCall 2 (M_is_tile C)) (aCons (eVar 1) (aCons (eVar 0) aNil))) (e2 gLeD (eCnt (eVar 2) (eVar 0)) (eC (.int 2))))) aNil)) δ) tru)) (fRet (eC (.bool false))) fNil) (fRet (eCb (gCall 1 (M_is_in_order)) (aCons (eVar 1) aNil)))))
noncomputable def M_is_hand (C : Addr) : List DV → M DV := mir ["house", "hand", "jokers"] (F_is_hand C)
noncomputable def F__law_cell_at (K : PySem.W.Frag) : DS → M Out := (fSq (fIf (fun δ => bd (e2 gLtD (eVar 1) (eCb (gLenS K) (aCons (eVar 0) aNil)) δ) tru) (fRet (e2 (gIxS K) (eVar 0) (eVar 1))) fNil) (fRet (eC (.int 0))))
noncomputable def M__law_cell_at (K : PySem.W.Frag) : List DV → M DV := mir ["script", "k"] (F__law_cell_at K)
noncomputable def F__law_mix : DS → M Out := (fSq (fSet 3 (eLst (aCons (eC (.int 48271)) (aCons (eC (.int 69621)) (aCons (eC (.int 16807)) (aCons (eC (.int 39373)) (aCons (eC (.int 30269)) (aCons (eC (.int 40014)) (aCons (eC (.int 40692)) (aCons (eC (.int 50021)) (aCons (eC (.int 61687)) (aCons (eC (.int 71993)) (aCons (eC (.int 83869)) (aCons (eC (.int 95561)) (aCons (eC (.int 30307)) aNil))))))))))))))) (fSq (fSet 4 (e2 gPlus (e2 gPlus (e2 gTimes (e2 gPlus (e2 gMod (eVar 0) (eC (.int 2147483647))) (eC (.int 12345))) (e2 gIx (eVar 3) (e2 gMod (eVar 1) (eC (.int 13))))) (e2 gTimes (eC (.int 977)) (eVar 1))) (e2 gTimes (eC (.int 7919)) (e2 gDiv (eVar 1) (eC (.int 13)))))) (fSq (fSet 4 (e2 gMod (eVar 4) (eC (.int 1000000007)))) (fRet (e2 gMod (e2 gDiv (e2 gMod (e2 gPlus (e2 gTimes (eVar 4) (eVar 4)) (e2 gTimes (eC (.int 48271)) (eVar 1))) (eC (.int 1000000007))) (eC (.int 7))) (eVar 2))))))
noncomputable def M__law_mix : List DV → M DV := mir ["cell", "k", "many", "some", "stir"] (F__law_mix)
noncomputable def F__law_house_by (K : PySem.W.Frag) : DS → M Out := (fSq (fSet 1 (eCb (gCall 2 (M__law_cell_at K)) (aCons (eVar 0) (aCons (eC (.int 0)) aNil)))) (fRet (eTup (aCons (e2 gPlus (eC (.int 3)) (eCb (gCall 3 (M__law_mix)) (aCons (eVar 1) (aCons (eC (.int 1)) (aCons (e2 gIx (eLst (aCons (eC (.int 4)) (aCons (eC (.int 4)) (aCons (eC (.int 4)) (aCons (eC (.int 11)) aNil))))) (eCb (gCall 3 (M__law_mix)) (aCons (eVar 1) (aCons (eC (.int 2)) (aCons (eC (.int 4)) aNil))))) aNil))))) (aCons (e2 gPlus (eC (.int 1)) (eCb (gCall 3 (M__law_mix)) (aCons (eVar 1) (aCons (eC (.int 3)) (aCons (eC (.int 4)) aNil))))) aNil)))))
noncomputable def M__law_house_by (K : PySem.W.Frag) : List DV → M DV := mir ["script", "cell"] (F__law_house_by K)
end LW
set_option Elab.async false
set_option linter.all false
set_option maxRecDepth 100000
set_option maxHeartbeats 1000000
set_option autoImplicit false
namespace LW
open PySem PySem.Spec L2 L3
theorem ite_d (a b : Bool) : (if a = true then rt (DV.d (.bool b)) else rt (DV.d (.bool false))) = rt (.d (.bool (a && b))) := by cases a <;> rfl
theorem ite_b (a b : Bool) : (if a = true then rt b else rt false) = (rt (a && b) : M Bool) := by cases a <;> rfl
theorem ite_o (a b : Bool) : (if a = true then rt true else rt b) = (rt (a || b) : M Bool) := by cases a <;> rfl
theorem ite_e (a b : Bool) : (if a = true then rt (DV.d (.bool true)) else rt (DV.d (.bool b))) = rt (.d (.bool (a || b))) := by cases a <;> rfl
noncomputable def cellAt (ns : List Int) (k : Int) : Int := if k < (ns.length : Int) then (atI ns k).getD 0 else 0
theorem atI_some {α : Type} {xs : List α} {i : Int} (h0 : 0 ≤ i) (h1 : i < (xs.length : Int)) : ∃ x, atI xs i = some x := by
  unfold atI ixN
  rw [if_pos h0, if_pos h1]
  exact ⟨xs[i.toNat]'(by lia), by simp⟩
theorem gLenS_is (K : PySem.W.Frag) (ns : List Int) : gLenS K [.scr K ns] = rt (.d (.int ns.length)) := by
  unfold gLenS
  exact if_pos rfl
theorem gIxS_is (K : PySem.W.Frag) (ns : List Int) (i : Int) : gIxS K (.scr K ns) (.d (.int i)) = bd (op (atI ns i)) fun n => rt (.d (.int n)) := by
  unfold gIxS
  exact if_pos rfl
theorem m_cell (K : PySem.W.Frag) (ns : List Int) (k : Int) (h : 0 ≤ k) : M__law_cell_at K [.scr K ns, .d (.int k)] = rt (.d (.int (cellAt ns k))) := by
  unfold M__law_cell_at F__law_cell_at cellAt
  simp only [mir, dst, fSq, fSet, fRet, fIf, fNil, fTg, fDrop, fPar, eVar, eC, e2, aCons, aNil, eTup, eLst, eCb, gCall, L3.args_nil, args_d, args_ob, args_new, args_scr, datas_nil, datas_d, datas_new, Option.map_some, bd_rt, bd_ok, bd_none, op_some, okO_rt, okO_ok, sqo_nx, sqo_rt, outR_rt, outR_nx, res_d, res_own, res_new, res_ob, asgn_d, asgn_ob, asgn_new, asgn_scr, tru_b, bNot, bAnd, bOr, eAnd, eOr, eNot, eCh, eFld, List.map_cons, List.map_nil, List.length_cons, List.length_nil, List.replicate, List.cons_append, List.nil_append, List.append_nil, List.getElem?_cons_zero, List.getElem?_cons_succ, List.set_cons_zero, List.set_cons_succ, Option.join_some, Nat.reduceAdd, Nat.reduceSub, Nat.reduceLeDiff, Nat.reduceEqDiff, if_true, if_false, ite_true, ite_false, Bool.not_true, Bool.not_false, Bool.false_eq_true, Nat.zero_add, asD_d, asD_new, asL_d, asL_own, asL_new, asQ_d, asQ_own, asQ_new, gPlus_int, gAdd_int, gSub_int, gLt_int, gLe_int, gGt_int, gGe_int, gLtD_int, gLeD_int, ite_d, ite_b, ite_o, ite_e]
  rw [gLenS_is]
  simp only [mir, dst, fSq, fSet, fRet, fIf, fNil, fTg, fDrop, fPar, eVar, eC, e2, aCons, aNil, eTup, eLst, eCb, gCall, L3.args_nil, args_d, args_ob, args_new, args_scr, datas_nil, datas_d, datas_new, Option.map_some, bd_rt, bd_ok, bd_none, op_some, okO_rt, okO_ok, sqo_nx, sqo_rt, outR_rt, outR_nx, res_d, res_own, res_new, res_ob, asgn_d, asgn_ob, asgn_new, asgn_scr, tru_b, bNot, bAnd, bOr, eAnd, eOr, eNot, eCh, eFld, List.map_cons, List.map_nil, List.length_cons, List.length_nil, List.replicate, List.cons_append, List.nil_append, List.append_nil, List.getElem?_cons_zero, List.getElem?_cons_succ, List.set_cons_zero, List.set_cons_succ, Option.join_some, Nat.reduceAdd, Nat.reduceSub, Nat.reduceLeDiff, Nat.reduceEqDiff, if_true, if_false, ite_true, ite_false, Bool.not_true, Bool.not_false, Bool.false_eq_true, Nat.zero_add, asD_d, asD_new, asL_d, asL_own, asL_new, asQ_d, asQ_own, asQ_new, gPlus_int, gAdd_int, gSub_int, gLt_int, gLe_int, gGt_int, gGe_int, gLtD_int, gLeD_int, ite_d, ite_b, ite_o, ite_e]
  by_cases hk : k < (ns.length : Int)
  · obtain ⟨x, hx⟩ := atI_some h hk
    rw [decide_eq_true hk, gIxS_is, hx, if_pos hk]
    simp only [mir, dst, fSq, fSet, fRet, fIf, fNil, fTg, fDrop, fPar, eVar, eC, e2, aCons, aNil, eTup, eLst, eCb, gCall, L3.args_nil, args_d, args_ob, args_new, args_scr, datas_nil, datas_d, datas_new, Option.map_some, bd_rt, bd_ok, bd_none, op_some, okO_rt, okO_ok, sqo_nx, sqo_rt, outR_rt, outR_nx, res_d, res_own, res_new, res_ob, asgn_d, asgn_ob, asgn_new, asgn_scr, tru_b, bNot, bAnd, bOr, eAnd, eOr, eNot, eCh, eFld, List.map_cons, List.map_nil, List.length_cons, List.length_nil, List.replicate, List.cons_append, List.nil_append, List.append_nil, List.getElem?_cons_zero, List.getElem?_cons_succ, List.set_cons_zero, List.set_cons_succ, Option.join_some, Nat.reduceAdd, Nat.reduceSub, Nat.reduceLeDiff, Nat.reduceEqDiff, if_true, if_false, ite_true, ite_false, Bool.not_true, Bool.not_false, Bool.false_eq_true, Nat.zero_add, asD_d, asD_new, asL_d, asL_own, asL_new, asQ_d, asQ_own, asQ_new, gPlus_int, gAdd_int, gSub_int, gLt_int, gLe_int, gGt_int, gGe_int, gLtD_int, gLeD_int, ite_d, ite_b, ite_o, ite_e]
    rfl
  · rw [decide_eq_false hk, if_neg hk]
    simp only [mir, dst, fSq, fSet, fRet, fIf, fNil, fTg, fDrop, fPar, eVar, eC, e2, aCons, aNil, eTup, eLst, eCb, gCall, L3.args_nil, args_d, args_ob, args_new, args_scr, datas_nil, datas_d, datas_new, Option.map_some, bd_rt, bd_ok, bd_none, op_some, okO_rt, okO_ok, sqo_nx, sqo_rt, outR_rt, outR_nx, res_d, res_own, res_new, res_ob, asgn_d, asgn_ob, asgn_new, asgn_scr, tru_b, bNot, bAnd, bOr, eAnd, eOr, eNot, eCh, eFld, List.map_cons, List.map_nil, List.length_cons, List.length_nil, List.replicate, List.cons_append, List.nil_append, List.append_nil, List.getElem?_cons_zero, List.getElem?_cons_succ, List.set_cons_zero, List.set_cons_succ, Option.join_some, Nat.reduceAdd, Nat.reduceSub, Nat.reduceLeDiff, Nat.reduceEqDiff, if_true, if_false, ite_true, ite_false, Bool.not_true, Bool.not_false, Bool.false_eq_true, Nat.zero_add, asD_d, asD_new, asL_d, asL_own, asL_new, asQ_d, asQ_own, asQ_new, gPlus_int, gAdd_int, gSub_int, gLt_int, gLe_int, gGt_int, gGe_int, gLtD_int, gLeD_int, ite_d, ite_b, ite_o, ite_e]
theorem at_big {i : Int} (h0 : 0 ≤ i) (h1 : i < 13) : ∃ x : Int, atI ([.int 48271, .int 69621, .int 16807, .int 39373, .int 30269, .int 40014, .int 40692, .int 50021, .int 61687, .int 71993, .int 83869, .int 95561, .int 30307] : List D) i = some (.int x) ∧ 0 < x ∧ x < 100000 := by
  obtain ⟨n, rfl⟩ := Int.eq_ofNat_of_zero_le h0
  have hn : n < 13 := by lia
  match n, hn with
  | 0, _ | 1, _ | 2, _ | 3, _ | 4, _ | 5, _ | 6, _ | 7, _ | 8, _ | 9, _ | 10, _ | 11, _ | 12, _ => exact ⟨_, rfl, by decide, by decide⟩
theorem gIx_own {xs : List D} {i : Int} {x : D} (h : atI xs i = some x) : gIx (.own xs) (.d (.int i)) = rt (.d x) := by
  unfold gIx
  simp only [h, op_some, bd_rt]
theorem gIx_new {xs : List D} {i : Int} {x : D} (h : atI xs i = some x) : gIx (.new xs) (.d (.int i)) = rt (.d x) := by
  unfold gIx
  simp only [h, op_some, bd_rt]
theorem gIx_tup {xs : List D} {i : Int} {x : D} (h : atI xs i = some x) : gIx (.d (.tuple xs)) (.d (.int i)) = rt (.d x) := by
  unfold gIx
  simp only [h, op_some, bd_rt]
theorem gIx_lst {xs : List D} {i : Int} {x : D} (h : atI xs i = some x) : gIx (.d (.list xs)) (.d (.int i)) = rt (.d x) := by
  unfold gIx
  simp only [h, op_some, bd_rt]
theorem cMul_l {i j : Int} (h : 0 ≤ i) (h' : i < 18446744073709551616) : cMul i j = true := by
  unfold cMul
  have a : decide (-(2 ^ 64) < i) = true := decide_eq_true (by lia)
  have b : decide (i < 2 ^ 64) = true := decide_eq_true (by lia)
  rw [a, b]; rfl
theorem cMul_r {i j : Int} (h : 0 ≤ j) (h' : j < 18446744073709551616) : cMul i j = true := by
  unfold cMul
  have a : decide (-(2 ^ 64) < j) = true := decide_eq_true (by lia)
  have b : decide (j < 2 ^ 64) = true := decide_eq_true (by lia)
  rw [a, b, Bool.and_true, Bool.or_true]
theorem m_mix (cell k many : Int) (hm : 0 < many) : ∃ r, M__law_mix [.d (.int cell), .d (.int k), .d (.int many)] = rt (.d (.int r)) ∧ 0 ≤ r ∧ r < many := by
  unfold M__law_mix F__law_mix
  simp only [mir, dst, fSq, fSet, fRet, fIf, fNil, fTg, fDrop, fPar, eVar, eC, e2, aCons, aNil, eTup, eLst, eCb, gCall, L3.args_nil, args_d, args_ob, args_new, args_scr, datas_nil, datas_d, datas_new, Option.map_some, bd_rt, bd_ok, bd_none, op_some, okO_rt, okO_ok, sqo_nx, sqo_rt, outR_rt, outR_nx, res_d, res_own, res_new, res_ob, asgn_d, asgn_ob, asgn_new, asgn_scr, tru_b, bNot, bAnd, bOr, eAnd, eOr, eNot, eCh, eFld, List.map_cons, List.map_nil, List.length_cons, List.length_nil, List.replicate, List.cons_append, List.nil_append, List.append_nil, List.getElem?_cons_zero, List.getElem?_cons_succ, List.set_cons_zero, List.set_cons_succ, Option.join_some, Nat.reduceAdd, Nat.reduceSub, Nat.reduceLeDiff, Nat.reduceEqDiff, if_true, if_false, ite_true, ite_false, Bool.not_true, Bool.not_false, Bool.false_eq_true, Nat.zero_add, asD_d, asD_new, asL_d, asL_own, asL_new, asQ_d, asQ_own, asQ_new, gPlus_int, gAdd_int, gSub_int, gLt_int, gLe_int, gGt_int, gGe_int, gLtD_int, gLeD_int, ite_d, ite_b, ite_o, ite_e]
  rw [gMod_int (by decide), gMod_int (by decide), gDiv_int (by decide) (by decide)]
  obtain ⟨x, hx, x0, x1⟩ := at_big (Int.emod_nonneg k (by decide : (13 : Int) ≠ 0)) (Int.emod_lt_of_pos k (by decide : (0 : Int) < 13))
  simp only [mir, dst, fSq, fSet, fRet, fIf, fNil, fTg, fDrop, fPar, eVar, eC, e2, aCons, aNil, eTup, eLst, eCb, gCall, L3.args_nil, args_d, args_ob, args_new, args_scr, datas_nil, datas_d, datas_new, Option.map_some, bd_rt, bd_ok, bd_none, op_some, okO_rt, okO_ok, sqo_nx, sqo_rt, outR_rt, outR_nx, res_d, res_own, res_new, res_ob, asgn_d, asgn_ob, asgn_new, asgn_scr, tru_b, bNot, bAnd, bOr, eAnd, eOr, eNot, eCh, eFld, List.map_cons, List.map_nil, List.length_cons, List.length_nil, List.replicate, List.cons_append, List.nil_append, List.append_nil, List.getElem?_cons_zero, List.getElem?_cons_succ, List.set_cons_zero, List.set_cons_succ, Option.join_some, Nat.reduceAdd, Nat.reduceSub, Nat.reduceLeDiff, Nat.reduceEqDiff, if_true, if_false, ite_true, ite_false, Bool.not_true, Bool.not_false, Bool.false_eq_true, Nat.zero_add, asD_d, asD_new, asL_d, asL_own, asL_new, asQ_d, asQ_own, asQ_new, gPlus_int, gAdd_int, gSub_int, gLt_int, gLe_int, gGt_int, gGe_int, gLtD_int, gLeD_int, ite_d, ite_b, ite_o, ite_e]
  rw [gIx_own hx]
  simp only [mir, dst, fSq, fSet, fRet, fIf, fNil, fTg, fDrop, fPar, eVar, eC, e2, aCons, aNil, eTup, eLst, eCb, gCall, L3.args_nil, args_d, args_ob, args_new, args_scr, datas_nil, datas_d, datas_new, Option.map_some, bd_rt, bd_ok, bd_none, op_some, okO_rt, okO_ok, sqo_nx, sqo_rt, outR_rt, outR_nx, res_d, res_own, res_new, res_ob, asgn_d, asgn_ob, asgn_new, asgn_scr, tru_b, bNot, bAnd, bOr, eAnd, eOr, eNot, eCh, eFld, List.map_cons, List.map_nil, List.length_cons, List.length_nil, List.replicate, List.cons_append, List.nil_append, List.append_nil, List.getElem?_cons_zero, List.getElem?_cons_succ, List.set_cons_zero, List.set_cons_succ, Option.join_some, Nat.reduceAdd, Nat.reduceSub, Nat.reduceLeDiff, Nat.reduceEqDiff, if_true, if_false, ite_true, ite_false, Bool.not_true, Bool.not_false, Bool.false_eq_true, Nat.zero_add, asD_d, asD_new, asL_d, asL_own, asL_new, asQ_d, asQ_own, asQ_new, gPlus_int, gAdd_int, gSub_int, gLt_int, gLe_int, gGt_int, gGe_int, gLtD_int, gLeD_int, ite_d, ite_b, ite_o, ite_e]
  rw [gTimes_int (cMul_r (by lia) (by lia)), gTimes_int (cMul_l (by decide) (by decide)), gTimes_int (cMul_l (by decide) (by decide))]
  simp only [mir, dst, fSq, fSet, fRet, fIf, fNil, fTg, fDrop, fPar, eVar, eC, e2, aCons, aNil, eTup, eLst, eCb, gCall, L3.args_nil, args_d, args_ob, args_new, args_scr, datas_nil, datas_d, datas_new, Option.map_some, bd_rt, bd_ok, bd_none, op_some, okO_rt, okO_ok, sqo_nx, sqo_rt, outR_rt, outR_nx, res_d, res_own, res_new, res_ob, asgn_d, asgn_ob, asgn_new, asgn_scr, tru_b, bNot, bAnd, bOr, eAnd, eOr, eNot, eCh, eFld, List.map_cons, List.map_nil, List.length_cons, List.length_nil, List.replicate, List.cons_append, List.nil_append, List.append_nil, List.getElem?_cons_zero, List.getElem?_cons_succ, List.set_cons_zero, List.set_cons_succ, Option.join_some, Nat.reduceAdd, Nat.reduceSub, Nat.reduceLeDiff, Nat.reduceEqDiff, if_true, if_false, ite_true, ite_false, Bool.not_true, Bool.not_false, Bool.false_eq_true, Nat.zero_add, asD_d, asD_new, asL_d, asL_own, asL_new, asQ_d, asQ_own, asQ_new, gPlus_int, gAdd_int, gSub_int, gLt_int, gLe_int, gGt_int, gGe_int, gLtD_int, gLeD_int, ite_d, ite_b, ite_o, ite_e]
  rw [gMod_int (by decide)]
  simp only [mir, dst, fSq, fSet, fRet, fIf, fNil, fTg, fDrop, fPar, eVar, eC, e2, aCons, aNil, eTup, eLst, eCb, gCall, L3.args_nil, args_d, args_ob, args_new, args_scr, datas_nil, datas_d, datas_new, Option.map_some, bd_rt, bd_ok, bd_none, op_some, okO_rt, okO_ok, sqo_nx, sqo_rt, outR_rt, outR_nx, res_d, res_own, res_new, res_ob, asgn_d, asgn_ob, asgn_new, asgn_scr, tru_b, bNot, bAnd, bOr, eAnd, eOr, eNot, eCh, eFld, List.map_cons, List.map_nil, List.length_cons, List.length_nil, List.replicate, List.cons_append, List.nil_append, List.append_nil, List.getElem?_cons_zero, List.getElem?_cons_succ, List.set_cons_zero, List.set_cons_succ, Option.join_some, Nat.reduceAdd, Nat.reduceSub, Nat.reduceLeDiff, Nat.reduceEqDiff, if_true, if_false, ite_true, ite_false, Bool.not_true, Bool.not_false, Bool.false_eq_true, Nat.zero_add, asD_d, asD_new, asL_d, asL_own, asL_new, asQ_d, asQ_own, asQ_new, gPlus_int, gAdd_int, gSub_int, gLt_int, gLe_int, gGt_int, gGe_int, gLtD_int, gLeD_int, ite_d, ite_b, ite_o, ite_e]
  generalize hs : ((cell % 2147483647 + 12345) * x + 977 * k + 7919 * (k / 13)) % 1000000007 = st
  have s0 : 0 ≤ st := by rw [← hs]; exact Int.emod_nonneg _ (by decide)
  have s1 : st < 1000000007 := by rw [← hs]; exact Int.emod_lt_of_pos _ (by decide)
  rw [gTimes_int (cMul_l s0 (by lia)), gTimes_int (cMul_l (by decide) (by decide))]
  simp only [mir, dst, fSq, fSet, fRet, fIf, fNil, fTg, fDrop, fPar, eVar, eC, e2, aCons, aNil, eTup, eLst, eCb, gCall, L3.args_nil, args_d, args_ob, args_new, args_scr, datas_nil, datas_d, datas_new, Option.map_some, bd_rt, bd_ok, bd_none, op_some, okO_rt, okO_ok, sqo_nx, sqo_rt, outR_rt, outR_nx, res_d, res_own, res_new, res_ob, asgn_d, asgn_ob, asgn_new, asgn_scr, tru_b, bNot, bAnd, bOr, eAnd, eOr, eNot, eCh, eFld, List.map_cons, List.map_nil, List.length_cons, List.length_nil, List.replicate, List.cons_append, List.nil_append, List.append_nil, List.getElem?_cons_zero, List.getElem?_cons_succ, List.set_cons_zero, List.set_cons_succ, Option.join_some, Nat.reduceAdd, Nat.reduceSub, Nat.reduceLeDiff, Nat.reduceEqDiff, if_true, if_false, ite_true, ite_false, Bool.not_true, Bool.not_false, Bool.false_eq_true, Nat.zero_add, asD_d, asD_new, asL_d, asL_own, asL_new, asQ_d, asQ_own, asQ_new, gPlus_int, gAdd_int, gSub_int, gLt_int, gLe_int, gGt_int, gGe_int, gLtD_int, gLeD_int, ite_d, ite_b, ite_o, ite_e]
  rw [gMod_int (by decide)]
  simp only [mir, dst, fSq, fSet, fRet, fIf, fNil, fTg, fDrop, fPar, eVar, eC, e2, aCons, aNil, eTup, eLst, eCb, gCall, L3.args_nil, args_d, args_ob, args_new, args_scr, datas_nil, datas_d, datas_new, Option.map_some, bd_rt, bd_ok, bd_none, op_some, okO_rt, okO_ok, sqo_nx, sqo_rt, outR_rt, outR_nx, res_d, res_own, res_new, res_ob, asgn_d, asgn_ob, asgn_new, asgn_scr, tru_b, bNot, bAnd, bOr, eAnd, eOr, eNot, eCh, eFld, List.map_cons, List.map_nil, List.length_cons, List.length_nil, List.replicate, List.cons_append, List.nil_append, List.append_nil, List.getElem?_cons_zero, List.getElem?_cons_succ, List.set_cons_zero, List.set_cons_succ, Option.join_some, Nat.reduceAdd, Nat.reduceSub, Nat.reduceLeDiff, Nat.reduceEqDiff, if_true, if_false, ite_true, ite_false, Bool.not_true, Bool.not_false, Bool.false_eq_true, Nat.zero_add, asD_d, asD_new, asL_d, asL_own, asL_new, asQ_d, asQ_own, asQ_new, gPlus_int, gAdd_int, gSub_int, gLt_int, gLe_int, gGt_int, gGe_int, gLtD_int, gLeD_int, ite_d, ite_b, ite_o, ite_e]
  rw [gDiv_int (by decide) (by decide)]
  simp only [mir, dst, fSq, fSet, fRet, fIf, fNil, fTg, fDrop, fPar, eVar, eC, e2, aCons, aNil, eTup, eLst, eCb, gCall, L3.args_nil, args_d, args_ob, args_new, args_scr, datas_nil, datas_d, datas_new, Option.map_some, bd_rt, bd_ok, bd_none, op_some, okO_rt, okO_ok, sqo_nx, sqo_rt, outR_rt, outR_nx, res_d, res_own, res_new, res_ob, asgn_d, asgn_ob, asgn_new, asgn_scr, tru_b, bNot, bAnd, bOr, eAnd, eOr, eNot, eCh, eFld, List.map_cons, List.map_nil, List.length_cons, List.length_nil, List.replicate, List.cons_append, List.nil_append, List.append_nil, List.getElem?_cons_zero, List.getElem?_cons_succ, List.set_cons_zero, List.set_cons_succ, Option.join_some, Nat.reduceAdd, Nat.reduceSub, Nat.reduceLeDiff, Nat.reduceEqDiff, if_true, if_false, ite_true, ite_false, Bool.not_true, Bool.not_false, Bool.false_eq_true, Nat.zero_add, asD_d, asD_new, asL_d, asL_own, asL_new, asQ_d, asQ_own, asQ_new, gPlus_int, gAdd_int, gSub_int, gLt_int, gLe_int, gGt_int, gGe_int, gLtD_int, gLeD_int, ite_d, ite_b, ite_o, ite_e]
  rw [gMod_int hm]
  simp only [mir, dst, fSq, fSet, fRet, fIf, fNil, fTg, fDrop, fPar, eVar, eC, e2, aCons, aNil, eTup, eLst, eCb, gCall, L3.args_nil, args_d, args_ob, args_new, args_scr, datas_nil, datas_d, datas_new, Option.map_some, bd_rt, bd_ok, bd_none, op_some, okO_rt, okO_ok, sqo_nx, sqo_rt, outR_rt, outR_nx, res_d, res_own, res_new, res_ob, asgn_d, asgn_ob, asgn_new, asgn_scr, tru_b, bNot, bAnd, bOr, eAnd, eOr, eNot, eCh, eFld, List.map_cons, List.map_nil, List.length_cons, List.length_nil, List.replicate, List.cons_append, List.nil_append, List.append_nil, List.getElem?_cons_zero, List.getElem?_cons_succ, List.set_cons_zero, List.set_cons_succ, Option.join_some, Nat.reduceAdd, Nat.reduceSub, Nat.reduceLeDiff, Nat.reduceEqDiff, if_true, if_false, ite_true, ite_false, Bool.not_true, Bool.not_false, Bool.false_eq_true, Nat.zero_add, asD_d, asD_new, asL_d, asL_own, asL_new, asQ_d, asQ_own, asQ_new, gPlus_int, gAdd_int, gSub_int, gLt_int, gLe_int, gGt_int, gGe_int, gLtD_int, gLeD_int, ite_d, ite_b, ite_o, ite_e]
  exact ⟨_, rfl, Int.emod_nonneg _ (by lia), Int.emod_lt_of_pos _ hm⟩
end LW
set_option Elab.async false
set_option linter.all false
set_option maxRecDepth 100000
set_option maxHeartbeats 1000000
set_option autoImplicit false
namespace LW
open PySem PySem.Spec L2 L3
theorem m_house (K : PySem.W.Frag) (ns : List Int) : ∃ m c, M__law_house_by K [.scr K ns] = rt (.d (.tuple [.int m, .int c])) ∧ 3 ≤ m ∧ m ≤ 13 ∧ 1 ≤ c ∧ c ≤ 4 := by
  unfold M__law_house_by F__law_house_by
  simp only [mir, dst, fSq, fSet, fRet, fIf, fNil, fTg, fDrop, fPar, eVar, eC, e2, aCons, aNil, eTup, eLst, eCb, gCall, L3.args_nil, args_d, args_ob, args_new, args_scr, datas_nil, datas_d, datas_new, Option.map_some, bd_rt, bd_ok, bd_none, op_some, okO_rt, okO_ok, sqo_nx, sqo_rt, outR_rt, outR_nx, res_d, res_own, res_new, res_ob, asgn_d, asgn_ob, asgn_new, asgn_scr, tru_b, bNot, bAnd, bOr, eAnd, eOr, eNot, eCh, eFld, List.map_cons, List.map_nil, List.length_cons, List.length_nil, List.replicate, List.cons_append, List.nil_append, List.append_nil, List.getElem?_cons_zero, List.getElem?_cons_succ, List.set_cons_zero, List.set_cons_succ, Option.join_some, Nat.reduceAdd, Nat.reduceSub, Nat.reduceLeDiff, Nat.reduceEqDiff, if_true, if_false, ite_true, ite_false, Bool.not_true, Bool.not_false, Bool.false_eq_true, Nat.zero_add, asD_d, asD_new, asL_d, asL_own, asL_new, asQ_d, asQ_own, asQ_new, gPlus_int, gAdd_int, gSub_int, gLt_int, gLe_int, gGt_int, gGe_int, gLtD_int, gLeD_int, ite_d, ite_b, ite_o, ite_e]
  rw [m_cell K ns 0 (by decide)]
  simp only [mir, dst, fSq, fSet, fRet, fIf, fNil, fTg, fDrop, fPar, eVar, eC, e2, aCons, aNil, eTup, eLst, eCb, gCall, L3.args_nil, args_d, args_ob, args_new, args_scr, datas_nil, datas_d, datas_new, Option.map_some, bd_rt, bd_ok, bd_none, op_some, okO_rt, okO_ok, sqo_nx, sqo_rt, outR_rt, outR_nx, res_d, res_own, res_new, res_ob, asgn_d, asgn_ob, asgn_new, asgn_scr, tru_b, bNot, bAnd, bOr, eAnd, eOr, eNot, eCh, eFld, List.map_cons, List.map_nil, List.length_cons, List.length_nil, List.replicate, List.cons_append, List.nil_append, List.append_nil, List.getElem?_cons_zero, List.getElem?_cons_succ, List.set_cons_zero, List.set_cons_succ, Option.join_some, Nat.reduceAdd, Nat.reduceSub, Nat.reduceLeDiff, Nat.reduceEqDiff, if_true, if_false, ite_true, ite_false, Bool.not_true, Bool.not_false, Bool.false_eq_true, Nat.zero_add, asD_d, asD_new, asL_d, asL_own, asL_new, asQ_d, asQ_own, asQ_new, gPlus_int, gAdd_int, gSub_int, gLt_int, gLe_int, gGt_int, gGe_int, gLtD_int, gLeD_int, ite_d, ite_b, ite_o, ite_e]
  obtain ⟨r1, h1, a1, b1⟩ := m_mix (cellAt ns 0) 2 4 (by decide)
  rw [h1]
  simp only [mir, dst, fSq, fSet, fRet, fIf, fNil, fTg, fDrop, fPar, eVar, eC, e2, aCons, aNil, eTup, eLst, eCb, gCall, L3.args_nil, args_d, args_ob, args_new, args_scr, datas_nil, datas_d, datas_new, Option.map_some, bd_rt, bd_ok, bd_none, op_some, okO_rt, okO_ok, sqo_nx, sqo_rt, outR_rt, outR_nx, res_d, res_own, res_new, res_ob, asgn_d, asgn_ob, asgn_new, asgn_scr, tru_b, bNot, bAnd, bOr, eAnd, eOr, eNot, eCh, eFld, List.map_cons, List.map_nil, List.length_cons, List.length_nil, List.replicate, List.cons_append, List.nil_append, List.append_nil, List.getElem?_cons_zero, List.getElem?_cons_succ, List.set_cons_zero, List.set_cons_succ, Option.join_some, Nat.reduceAdd, Nat.reduceSub, Nat.reduceLeDiff, Nat.reduceEqDiff, if_true, if_false, ite_true, ite_false, Bool.not_true, Bool.not_false, Bool.false_eq_true, Nat.zero_add, asD_d, asD_new, asL_d, asL_own, asL_new, asQ_d, asQ_own, asQ_new, gPlus_int, gAdd_int, gSub_int, gLt_int, gLe_int, gGt_int, gGe_int, gLtD_int, gLeD_int, ite_d, ite_b, ite_o, ite_e]
  have hx : ∃ x : Int, atI ([.int 4, .int 4, .int 4, .int 11] : List D) r1 = some (.int x) ∧ 4 ≤ x ∧ x ≤ 11 := by
    obtain ⟨n, rfl⟩ := Int.eq_ofNat_of_zero_le a1
    have hn : n < 4 := by lia
    match n, hn with
    | 0, _ | 1, _ | 2, _ | 3, _ => exact ⟨_, rfl, by decide, by decide⟩
  obtain ⟨x, hx, x4, x11⟩ := hx
  rw [gIx_new hx]
  simp only [mir, dst, fSq, fSet, fRet, fIf, fNil, fTg, fDrop, fPar, eVar, eC, e2, aCons, aNil, eTup, eLst, eCb, gCall, L3.args_nil, args_d, args_ob, args_new, args_scr, datas_nil, datas_d, datas_new, Option.map_some, bd_rt, bd_ok, bd_none, op_some, okO_rt, okO_ok, sqo_nx, sqo_rt, outR_rt, outR_nx, res_d, res_own, res_new, res_ob, asgn_d, asgn_ob, asgn_new, asgn_scr, tru_b, bNot, bAnd, bOr, eAnd, eOr, eNot, eCh, eFld, List.map_cons, List.map_nil, List.length_cons, List.length_nil, List.replicate, List.cons_append, List.nil_append, List.append_nil, List.getElem?_cons_zero, List.getElem?_cons_succ, List.set_cons_zero, List.set_cons_succ, Option.join_some, Nat.reduceAdd, Nat.reduceSub, Nat.reduceLeDiff, Nat.reduceEqDiff, if_true, if_false, ite_true, ite_false, Bool.not_true, Bool.not_false, Bool.false_eq_true, Nat.zero_add, asD_d, asD_new, asL_d, asL_own, asL_new, asQ_d, asQ_own, asQ_new, gPlus_int, gAdd_int, gSub_int, gLt_int, gLe_int, gGt_int, gGe_int, gLtD_int, gLeD_int, ite_d, ite_b, ite_o, ite_e]
  obtain ⟨r2, h2, a2, b2⟩ := m_mix (cellAt ns 0) 1 x (by lia)
  obtain ⟨r3, h3, a3, b3⟩ := m_mix (cellAt ns 0) 3 4 (by decide)
  rw [h2, h3]
  simp only [mir, dst, fSq, fSet, fRet, fIf, fNil, fTg, fDrop, fPar, eVar, eC, e2, aCons, aNil, eTup, eLst, eCb, gCall, L3.args_nil, args_d, args_ob, args_new, args_scr, datas_nil, datas_d, datas_new, Option.map_some, bd_rt, bd_ok, bd_none, op_some, okO_rt, okO_ok, sqo_nx, sqo_rt, outR_rt, outR_nx, res_d, res_own, res_new, res_ob, asgn_d, asgn_ob, asgn_new, asgn_scr, tru_b, bNot, bAnd, bOr, eAnd, eOr, eNot, eCh, eFld, List.map_cons, List.map_nil, List.length_cons, List.length_nil, List.replicate, List.cons_append, List.nil_append, List.append_nil, List.getElem?_cons_zero, List.getElem?_cons_succ, List.set_cons_zero, List.set_cons_succ, Option.join_some, Nat.reduceAdd, Nat.reduceSub, Nat.reduceLeDiff, Nat.reduceEqDiff, if_true, if_false, ite_true, ite_false, Bool.not_true, Bool.not_false, Bool.false_eq_true, Nat.zero_add, asD_d, asD_new, asL_d, asL_own, asL_new, asQ_d, asQ_own, asQ_new, gPlus_int, gAdd_int, gSub_int, gLt_int, gLe_int, gGt_int, gGe_int, gLtD_int, gLeD_int, ite_d, ite_b, ite_o, ite_e]
  exact ⟨_, _, rfl, by lia, by lia, by lia, by lia⟩
noncomputable def pr (p : Int × Int) : D := .tuple [.int p.1, .int p.2]
noncomputable def le (p q : Int × Int) : Bool := !(ll [q.1, q.2] [p.1, p.2])
theorem cD_pr (p q : Int × Int) : cD false (pr p) (pr q) = some (le p q) := by
  obtain ⟨a, b⟩ := p
  obtain ⟨c, d⟩ := q
  show cL false [.int a, .int b] [.int c, .int d] = some (!(HT.lexLt [c, d] [a, b]))
  unfold cL
  have e1 : PyData.eqv (.int a) (.int c) = (a == c) := rfl
  have e2 : PyData.eqv (.int b) (.int d) = (b == d) := rfl
  rw [e1, HT.lexLt_cons, HT.lexLt_cons]
  by_cases h : a = c
  · subst h
    rw [if_pos (beq_self_eq_true a), if_pos rfl]
    unfold cL
    rw [e2]
    by_cases h' : b = d
    · subst h'
      rw [if_pos (beq_self_eq_true b), if_pos rfl]
      rfl
    · rw [if_neg (by simpa using h'), if_neg (Ne.symm h')]
      show some (decide (b ≤ d)) = _
      congr 1
      by_cases hb : b ≤ d
      · simp [hb]
      · simp [hb]; lia
  · rw [if_neg (by simpa using h), if_neg (Ne.symm h)]
    show some (decide (a ≤ c)) = _
    congr 1
    by_cases hb : a ≤ c
    · simp [hb]
    · simp [hb]; lia
theorem gLeD_pr (p q : Int × Int) : gLeD (.d (pr p)) (.d (pr q)) = rt (.d (.bool (le p q))) := by
  have h : gLeD (.d (pr p)) (.d (pr q)) = gC false (.d (pr p)) (.d (pr q)) := rfl
  rw [h]
  show (if (pr p).depth ≤ 60 then bd (op (cD false (pr p) (pr q))) (fun k => rt (DV.d (.bool k))) else none) = _
  rw [if_pos (show (pr p).depth ≤ 60 from (by decide : 1 ≤ 60)), cD_pr]
  rfl
theorem comp_map {fe : DS → M DV} {δ : DS} {g : D → D} : ∀ {xs : List D}, (∀ d ∈ xs, fe (δ.set 0 (some (.d d))) = rt (.d (g d))) → compD (sName 0) bYes fe δ xs = some (xs.map g)
  | [], _ => rfl
  | d :: r, h => by
    have h1 := h d List.mem_cons_self
    have ih := comp_map (xs := r) fun e he => h e (List.mem_cons_of_mem _ he)
    unfold compD
    simp only [sName, bYes, rt]
    rw [h1, ih]
    rfl
theorem gAll_is {bs : List Bool} : gAll [.new (bs.map PyData.bool)] = rt (.d (.bool (bs.all id))) := by
  unfold gAll
  simp only [asL_new, op_some, bd_rt, bools_map]
noncomputable def tileOk (m c : Int) (p : Int × Int) : Bool := decide (1 ≤ p.1) && decide (p.1 ≤ m) && (decide (0 ≤ p.2) && decide (p.2 < c))
noncomputable def hs (C : Addr) (m c : Int) : DV := .ob C [("most", .int m), ("colours", .int c)]
theorem gFld_most (C : Addr) (m c : Int) : gFld C "most" (hs C m c) = rt (.d (.int m)) := by
  show (if C = C then bd (op (List.lookup ("most" : Str) [(("most" : Str), PyData.int m), ("colours", .int c)])) fun d => rt (DV.d d) else none) = _
  rw [if_pos rfl, List.lookup_cons]
  simp only [beq_self_eq_true]
  rfl
theorem gFld_colours (C : Addr) (m c : Int) : gFld C "colours" (hs C m c) = rt (.d (.int c)) := by
  show (if C = C then bd (op (List.lookup ("colours" : Str) [(("most" : Str), PyData.int m), ("colours", .int c)])) fun d => rt (DV.d d) else none) = _
  rw [if_pos rfl, List.lookup_cons]
  have h : (("colours" : Str) == "most") = false := by decide +kernel
  rw [h]
  simp only [List.lookup_cons, beq_self_eq_true]
  rfl
theorem args_hs (C : Addr) (m c : Int) (r : List DV) : args (hs C m c :: r) = (args r).map (hs C m c :: ·) := args_ob _ _ _
theorem m_tile (C : Addr) (m c : Int) (p : Int × Int) : M_is_tile C [hs C m c, .d (pr p)] = rt (.d (.bool (tileOk m c p))) := by
  unfold M_is_tile F_is_tile
  simp only [mir, dst, fSq, fSet, fRet, fIf, fNil, fTg, fDrop, fPar, eVar, eC, e2, aCons, aNil, eTup, eLst, eCb, gCall, L3.args_nil, args_d, args_ob, args_new, args_scr, datas_nil, datas_d, datas_new, Option.map_some, bd_rt, bd_ok, bd_none, op_some, okO_rt, okO_ok, sqo_nx, sqo_rt, outR_rt, outR_nx, res_d, res_own, res_new, res_ob, asgn_d, asgn_ob, asgn_new, asgn_scr, tru_b, bNot, bAnd, bOr, eAnd, eOr, eNot, eCh, eFld, List.map_cons, List.map_nil, List.length_cons, List.length_nil, List.replicate, List.cons_append, List.nil_append, List.append_nil, List.getElem?_cons_zero, List.getElem?_cons_succ, List.set_cons_zero, List.set_cons_succ, Option.join_some, Nat.reduceAdd, Nat.reduceSub, Nat.reduceLeDiff, Nat.reduceEqDiff, if_true, if_false, ite_true, ite_false, Bool.not_true, Bool.not_false, Bool.false_eq_true, Nat.zero_add, asD_d, asD_new, asL_d, asL_own, asL_new, asQ_d, asQ_own, asQ_new, gPlus_int, gAdd_int, gSub_int, gLt_int, gLe_int, gGt_int, gGe_int, gLtD_int, gLeD_int, ite_d, ite_b, ite_o, ite_e]
  have g0 : gIx (.d (pr p)) (.d (.int 0)) = rt (.d (.int p.1)) := gIx_tup rfl
  have g1 : gIx (.d (pr p)) (.d (.int 1)) = rt (.d (.int p.2)) := gIx_tup rfl
  rw [g0, g1, gFld_most, gFld_colours]
  simp only [mir, dst, fSq, fSet, fRet, fIf, fNil, fTg, fDrop, fPar, eVar, eC, e2, aCons, aNil, eTup, eLst, eCb, gCall, L3.args_nil, args_d, args_ob, args_new, args_scr, datas_nil, datas_d, datas_new, Option.map_some, bd_rt, bd_ok, bd_none, op_some, okO_rt, okO_ok, sqo_nx, sqo_rt, outR_rt, outR_nx, res_d, res_own, res_new, res_ob, asgn_d, asgn_ob, asgn_new, asgn_scr, tru_b, bNot, bAnd, bOr, eAnd, eOr, eNot, eCh, eFld, List.map_cons, List.map_nil, List.length_cons, List.length_nil, List.replicate, List.cons_append, List.nil_append, List.append_nil, List.getElem?_cons_zero, List.getElem?_cons_succ, List.set_cons_zero, List.set_cons_succ, Option.join_some, Nat.reduceAdd, Nat.reduceSub, Nat.reduceLeDiff, Nat.reduceEqDiff, if_true, if_false, ite_true, ite_false, Bool.not_true, Bool.not_false, Bool.false_eq_true, Nat.zero_add, asD_d, asD_new, asL_d, asL_own, asL_new, asQ_d, asQ_own, asQ_new, gPlus_int, gAdd_int, gSub_int, gLt_int, gLe_int, gGt_int, gGe_int, gLtD_int, gLeD_int, ite_d, ite_b, ite_o, ite_e]
  rfl
noncomputable def inOrd (ps : List (Int × Int)) : Bool := (List.range (ps.length - 1)).all fun k => le (ps.getD k (0, 0)) (ps.getD (k + 1) (0, 0))
theorem atI_nn {α : Type} {xs : List α} {k : Nat} (h : k < xs.length) (d : α) : atI xs (k : Int) = some (xs.getD k d) := by
  unfold atI ixN
  rw [if_pos (by lia), if_pos (by lia)]
  simp [h]
theorem atI_pr {ps : List (Int × Int)} {k : Nat} (h : k < ps.length) : atI (ps.map pr) (k : Int) = some (pr (ps.getD k (0, 0))) := by
  rw [atI_map, atI_nn h (0, 0)]
  rfl
theorem runI_mem {lo : Int} {n : Nat} {d : D} (h : d ∈ runI lo n) : ∃ i : Nat, i < n ∧ d = .int (lo + (i : Int)) := by
  unfold runI at h
  obtain ⟨i, hi, e⟩ := List.mem_map.mp h
  exact ⟨i, List.mem_range.mp hi, e.symm⟩
theorem order_comp (ps : List (Int × Int)) : compD (sName 0) bYes (e2 gLeD (e2 gIx (eVar 1) (e2 gSub (eVar 0) (eC (.int 1)))) (e2 gIx (eVar 1) (eVar 0))) (subD 1 [0] [some (.d (.list (ps.map pr)))]) (runI 1 ((ps.length : Int) - 1).toNat) = some (((List.range (ps.length - 1)).map fun k => le (ps.getD k (0, 0)) (ps.getD (k + 1) (0, 0))).map PyData.bool) := by
  rw [comp_map (g := fun d => match d with | .int i => .bool (le (ps.getD (i - 1).toNat (0, 0)) (ps.getD i.toNat (0, 0))) | _ => .none)]
  · have hn : ((ps.length : Int) - 1).toNat = ps.length - 1 := by lia
    rw [hn]
    unfold runI
    rw [List.map_map, List.map_map]
    congr 1
    refine List.map_congr_left fun k hk => ?_
    show PyData.bool (le (ps.getD (1 + (k : Int) - 1).toNat (0, 0)) (ps.getD (1 + (k : Int)).toNat (0, 0))) = _
    have e1 : (1 + (k : Int) - 1).toNat = k := by lia
    have e2 : (1 + (k : Int)).toNat = k + 1 := by lia
    rw [e1, e2]
    rfl
  · intro d hd
    obtain ⟨i, hi, rfl⟩ := runI_mem hd
    unfold subD
    simp only [mir, dst, fSq, fSet, fRet, fIf, fNil, fTg, fDrop, fPar, eVar, eC, e2, aCons, aNil, eTup, eLst, eCb, gCall, L3.args_nil, args_d, args_ob, args_new, args_scr, datas_nil, datas_d, datas_new, Option.map_some, bd_rt, bd_ok, bd_none, op_some, okO_rt, okO_ok, sqo_nx, sqo_rt, outR_rt, outR_nx, res_d, res_own, res_new, res_ob, asgn_d, asgn_ob, asgn_new, asgn_scr, tru_b, bNot, bAnd, bOr, eAnd, eOr, eNot, eCh, eFld, List.map_cons, List.map_nil, List.length_cons, List.length_nil, List.replicate, List.cons_append, List.nil_append, List.append_nil, List.getElem?_cons_zero, List.getElem?_cons_succ, List.set_cons_zero, List.set_cons_succ, Option.join_some, Nat.reduceAdd, Nat.reduceSub, Nat.reduceLeDiff, Nat.reduceEqDiff, if_true, if_false, ite_true, ite_false, Bool.not_true, Bool.not_false, Bool.false_eq_true, Nat.zero_add, asD_d, asD_new, asL_d, asL_own, asL_new, asQ_d, asQ_own, asQ_new, gPlus_int, gAdd_int, gSub_int, gLt_int, gLe_int, gGt_int, gGe_int, gLtD_int, gLeD_int, ite_d, ite_b, ite_o, ite_e]
    have hi2 : i + 1 < ps.length := by lia
    have e1 : (1 + (i : Int) - 1) = (i : Int) := by lia
    have e2 : (1 + (i : Int)) = ((i + 1 : Nat) : Int) := by lia
    rw [e1, e2, gIx_lst (atI_pr (by lia)), gIx_lst (atI_pr hi2)]
    simp only [mir, dst, fSq, fSet, fRet, fIf, fNil, fTg, fDrop, fPar, eVar, eC, e2, aCons, aNil, eTup, eLst, eCb, gCall, L3.args_nil, args_d, args_ob, args_new, args_scr, datas_nil, datas_d, datas_new, Option.map_some, bd_rt, bd_ok, bd_none, op_some, okO_rt, okO_ok, sqo_nx, sqo_rt, outR_rt, outR_nx, res_d, res_own, res_new, res_ob, asgn_d, asgn_ob, asgn_new, asgn_scr, tru_b, bNot, bAnd, bOr, eAnd, eOr, eNot, eCh, eFld, List.map_cons, List.map_nil, List.length_cons, List.length_nil, List.replicate, List.cons_append, List.nil_append, List.append_nil, List.getElem?_cons_zero, List.getElem?_cons_succ, List.set_cons_zero, List.set_cons_succ, Option.join_some, Nat.reduceAdd, Nat.reduceSub, Nat.reduceLeDiff, Nat.reduceEqDiff, if_true, if_false, ite_true, ite_false, Bool.not_true, Bool.not_false, Bool.false_eq_true, Nat.zero_add, asD_d, asD_new, asL_d, asL_own, asL_new, asQ_d, asQ_own, asQ_new, gPlus_int, gAdd_int, gSub_int, gLt_int, gLe_int, gGt_int, gGe_int, gLtD_int, gLeD_int, ite_d, ite_b, ite_o, ite_e]
    rw [gLeD_pr]
    have e3 : ((i + 1 : Nat) : Int) - 1 = (i : Int) := by lia
    simp only [e3, Int.toNat_natCast]
theorem gLen_prs (ps : List (Int × Int)) : gLen [.d (.list (ps.map pr))] = rt (.d (.int (ps.length : Int))) := by
  show rt (DV.d (.int ((ps.map pr).length : Int))) = _
  rw [List.length_map]
theorem iR2_is {fr : DS → M (List DV)} {δ : DS} {i j : Int} (h : fr δ = rt [.d (.int i), .d (.int j)]) (hi : -1000 ≤ i) (hi' : i ≤ 1000) (hj : -1000 ≤ j) (hj' : j ≤ 1000) : iR2 fr δ = rt (runI i (j - i).toNat) := by
  unfold iR2
  rw [h]
  exact if_pos ⟨by lia, by lia, by lia, by lia⟩
theorem iR1_is {fr : DS → M (List DV)} {δ : DS} {j : Int} (h : fr δ = rt [.d (.int j)]) (hj : -1000 ≤ j) (hj' : j ≤ 1000) : iR1 fr δ = rt (runI 0 j.toNat) := by
  unfold iR1
  rw [h]
  exact if_pos ⟨by lia, by lia⟩
theorem eComp_is {k : Nat} {js : List Nat} {fi : DS → M (List D)} {sf : D → DS → Option DS} {gc : DS → M Bool} {fe : DS → M DV} {δ : DS} {xs ys : List D} (h1 : fi δ = rt xs) (h2 : xs.length ≤ 1000000) (h3 : compD sf gc fe (subD k js δ) xs = some ys) : eComp k js fi sf gc fe δ = rt (.new ys) := by
  unfold eComp
  rw [h1, bd_rt, if_pos h2, h3]
  rfl
theorem m_order (ps : List (Int × Int)) (hl : ps.length ≤ 1000) : M_is_in_order [.d (.list (ps.map pr))] = rt (.d (.bool (inOrd ps))) := by
  unfold M_is_in_order F_is_in_order
  simp only [mir, dst, fSq, fSet, fRet, fIf, fNil, fTg, fDrop, fPar, eVar, eC, e2, aCons, aNil, eTup, eLst, eCb, gCall, L3.args_nil, args_d, args_ob, args_new, args_scr, datas_nil, datas_d, datas_new, Option.map_some, bd_rt, bd_ok, bd_none, op_some, okO_rt, okO_ok, sqo_nx, sqo_rt, outR_rt, outR_nx, res_d, res_own, res_new, res_ob, asgn_d, asgn_ob, asgn_new, asgn_scr, tru_b, bNot, bAnd, bOr, eAnd, eOr, eNot, eCh, eFld, List.map_cons, List.map_nil, List.length_cons, List.length_nil, List.replicate, List.cons_append, List.nil_append, List.append_nil, List.getElem?_cons_zero, List.getElem?_cons_succ, List.set_cons_zero, List.set_cons_succ, Option.join_some, Nat.reduceAdd, Nat.reduceSub, Nat.reduceLeDiff, Nat.reduceEqDiff, if_true, if_false, ite_true, ite_false, Bool.not_true, Bool.not_false, Bool.false_eq_true, Nat.zero_add, asD_d, asD_new, asL_d, asL_own, asL_new, asQ_d, asQ_own, asQ_new, gPlus_int, gAdd_int, gSub_int, gLt_int, gLe_int, gGt_int, gGe_int, gLtD_int, gLeD_int, ite_d, ite_b, ite_o, ite_e]
  rw [eComp_is (iR2_is (i := 1) (j := (ps.length : Int)) (by simp only [mir, dst, fSq, fSet, fRet, fIf, fNil, fTg, fDrop, fPar, eVar, eC, e2, aCons, aNil, eTup, eLst, eCb, gCall, L3.args_nil, args_d, args_ob, args_new, args_scr, datas_nil, datas_d, datas_new, Option.map_some, bd_rt, bd_ok, bd_none, op_some, okO_rt, okO_ok, sqo_nx, sqo_rt, outR_rt, outR_nx, res_d, res_own, res_new, res_ob, asgn_d, asgn_ob, asgn_new, asgn_scr, tru_b, bNot, bAnd, bOr, eAnd, eOr, eNot, eCh, eFld, List.map_cons, List.map_nil, List.length_cons, List.length_nil, List.replicate, List.cons_append, List.nil_append, List.append_nil, List.getElem?_cons_zero, List.getElem?_cons_succ, List.set_cons_zero, List.set_cons_succ, Option.join_some, Nat.reduceAdd, Nat.reduceSub, Nat.reduceLeDiff, Nat.reduceEqDiff, if_true, if_false, ite_true, ite_false, Bool.not_true, Bool.not_false, Bool.false_eq_true, Nat.zero_add, asD_d, asD_new, asL_d, asL_own, asL_new, asQ_d, asQ_own, asQ_new, gPlus_int, gAdd_int, gSub_int, gLt_int, gLe_int, gGt_int, gGe_int, gLtD_int, gLeD_int, ite_d, ite_b, ite_o, ite_e]; rw [gLen_prs]; simp only [mir, dst, fSq, fSet, fRet, fIf, fNil, fTg, fDrop, fPar, eVar, eC, e2, aCons, aNil, eTup, eLst, eCb, gCall, L3.args_nil, args_d, args_ob, args_new, args_scr, datas_nil, datas_d, datas_new, Option.map_some, bd_rt, bd_ok, bd_none, op_some, okO_rt, okO_ok, sqo_nx, sqo_rt, outR_rt, outR_nx, res_d, res_own, res_new, res_ob, asgn_d, asgn_ob, asgn_new, asgn_scr, tru_b, bNot, bAnd, bOr, eAnd, eOr, eNot, eCh, eFld, List.map_cons, List.map_nil, List.length_cons, List.length_nil, List.replicate, List.cons_append, List.nil_append, List.append_nil, List.getElem?_cons_zero, List.getElem?_cons_succ, List.set_cons_zero, List.set_cons_succ, Option.join_some, Nat.reduceAdd, Nat.reduceSub, Nat.reduceLeDiff, Nat.reduceEqDiff, if_true, if_false, ite_true, ite_false, Bool.not_true, Bool.not_false, Bool.false_eq_true, Nat.zero_add, asD_d, asD_new, asL_d, asL_own, asL_new, asQ_d, asQ_own, asQ_new, gPlus_int, gAdd_int, gSub_int, gLt_int, gLe_int, gGt_int, gGe_int, gLtD_int, gLeD_int, ite_d, ite_b, ite_o, ite_e]) (by lia) (by lia) (by lia) (by lia)) (by rw [runI_len]; lia) (order_comp ps)]
  simp only [mir, dst, fSq, fSet, fRet, fIf, fNil, fTg, fDrop, fPar, eVar, eC, e2, aCons, aNil, eTup, eLst, eCb, gCall, L3.args_nil, args_d, args_ob, args_new, args_scr, datas_nil, datas_d, datas_new, Option.map_some, bd_rt, bd_ok, bd_none, op_some, okO_rt, okO_ok, sqo_nx, sqo_rt, outR_rt, outR_nx, res_d, res_own, res_new, res_ob, asgn_d, asgn_ob, asgn_new, asgn_scr, tru_b, bNot, bAnd, bOr, eAnd, eOr, eNot, eCh, eFld, List.map_cons, List.map_nil, List.length_cons, List.length_nil, List.replicate, List.cons_append, List.nil_append, List.append_nil, List.getElem?_cons_zero, List.getElem?_cons_succ, List.set_cons_zero, List.set_cons_succ, Option.join_some, Nat.reduceAdd, Nat.reduceSub, Nat.reduceLeDiff, Nat.reduceEqDiff, if_true, if_false, ite_true, ite_false, Bool.not_true, Bool.not_false, Bool.false_eq_true, Nat.zero_add, asD_d, asD_new, asL_d, asL_own, asL_new, asQ_d, asQ_own, asQ_new, gPlus_int, gAdd_int, gSub_int, gLt_int, gLe_int, gGt_int, gGe_int, gLtD_int, gLeD_int, ite_d, ite_b, ite_o, ite_e]
  rw [gAll_is]
  simp only [mir, dst, fSq, fSet, fRet, fIf, fNil, fTg, fDrop, fPar, eVar, eC, e2, aCons, aNil, eTup, eLst, eCb, gCall, L3.args_nil, args_d, args_ob, args_new, args_scr, datas_nil, datas_d, datas_new, Option.map_some, bd_rt, bd_ok, bd_none, op_some, okO_rt, okO_ok, sqo_nx, sqo_rt, outR_rt, outR_nx, res_d, res_own, res_new, res_ob, asgn_d, asgn_ob, asgn_new, asgn_scr, tru_b, bNot, bAnd, bOr, eAnd, eOr, eNot, eCh, eFld, List.map_cons, List.map_nil, List.length_cons, List.length_nil, List.replicate, List.cons_append, List.nil_append, List.append_nil, List.getElem?_cons_zero, List.getElem?_cons_succ, List.set_cons_zero, List.set_cons_succ, Option.join_some, Nat.reduceAdd, Nat.reduceSub, Nat.reduceLeDiff, Nat.reduceEqDiff, if_true, if_false, ite_true, ite_false, Bool.not_true, Bool.not_false, Bool.false_eq_true, Nat.zero_add, asD_d, asD_new, asL_d, asL_own, asL_new, asQ_d, asQ_own, asQ_new, gPlus_int, gAdd_int, gSub_int, gLt_int, gLe_int, gGt_int, gGe_int, gLtD_int, gLeD_int, ite_d, ite_b, ite_o, ite_e]
  unfold inOrd
  rw [List.all_map]
  rfl
end LW
set_option Elab.async false
set_option linter.all false
set_option maxRecDepth 100000
set_option maxHeartbeats 1000000
set_option autoImplicit false
namespace LW
open PySem PySem.Spec L2 L3
theorem comp_by {α : Type} {f : α → D} {fe : DS → M DV} {δ : DS} {g : α → D} : ∀ {as : List α}, (∀ a ∈ as, fe (δ.set 0 (some (.d (f a)))) = rt (.d (g a))) → compD (sName 0) bYes fe δ (as.map f) = some (as.map g)
  | [], _ => rfl
  | a :: r, h => by
    have h1 := h a List.mem_cons_self
    have ih := comp_by (as := r) fun e he => h e (List.mem_cons_of_mem _ he)
    rw [List.map_cons, List.map_cons]
    unfold compD
    simp only [sName, bYes, rt]
    rw [h1, ih]
    rfl
noncomputable def cnt (ps : List (Int × Int)) (p : Int × Int) : Int := (((ps.map pr).countP fun z => PyData.eqv z (pr p) : Nat) : Int)
theorem gCnt_lst (ps : List (Int × Int)) (p : Int × Int) : gCnt (.d (.list (ps.map pr))) (.d (pr p)) = rt (.d (.int (cnt ps p))) := by
  unfold gCnt cnt
  exact if_pos (show (pr p).depth ≤ 60 from (by decide : 1 ≤ 60))
noncomputable def tok (m c : Int) (ps : List (Int × Int)) (p : Int × Int) : Bool := tileOk m c p && decide (cnt ps p ≤ 2)
theorem hand_comp (C : Addr) (m c j : Int) (ps : List (Int × Int)) :
    compD (sName 0) bYes (eAnd (eCb (gCall 2 (M_is_tile C)) (aCons (eVar 1) (aCons (eVar 0) aNil))) (e2 gLeD (eCnt (eVar 2) (eVar 0)) (eC (.int 2)))) (subD 1 [0, 1] [some (hs C m c), some (.d (.list (ps.map pr))), some (.d (.int j))]) (ps.map pr) = some ((ps.map (tok m c ps)).map PyData.bool) := by
  rw [List.map_map]
  refine comp_by fun p hp => ?_
  unfold subD
  simp only [mir, dst, fSq, fSet, fRet, fIf, fNil, fTg, fDrop, fPar, eVar, eC, e2, aCons, aNil, eTup, eLst, eCb, gCall, L3.args_nil, args_d, args_ob, args_new, args_scr, datas_nil, datas_d, datas_new, Option.map_some, bd_rt, bd_ok, bd_none, op_some, okO_rt, okO_ok, sqo_nx, sqo_rt, outR_rt, outR_nx, res_d, res_own, res_new, res_ob, asgn_d, asgn_ob, asgn_new, asgn_scr, tru_b, bNot, bAnd, bOr, eAnd, eOr, eNot, eCh, eFld, List.map_cons, List.map_nil, List.length_cons, List.length_nil, List.replicate, List.cons_append, List.nil_append, List.append_nil, List.getElem?_cons_zero, List.getElem?_cons_succ, List.set_cons_zero, List.set_cons_succ, Option.join_some, Nat.reduceAdd, Nat.reduceSub, Nat.reduceLeDiff, Nat.reduceEqDiff, if_true, if_false, ite_true, ite_false, Bool.not_true, Bool.not_false, Bool.false_eq_true, Nat.zero_add, asD_d, asD_new, asL_d, asL_own, asL_new, asQ_d, asQ_own, asQ_new, gPlus_int, gAdd_int, gSub_int, gLt_int, gLe_int, gGt_int, gGe_int, gLtD_int, gLeD_int, ite_d, ite_b, ite_o, ite_e]
  unfold eCnt
  simp only [mir, dst, fSq, fSet, fRet, fIf, fNil, fTg, fDrop, fPar, eVar, eC, e2, aCons, aNil, eTup, eLst, eCb, gCall, L3.args_nil, args_d, args_ob, args_new, args_scr, datas_nil, datas_d, datas_new, Option.map_some, bd_rt, bd_ok, bd_none, op_some, okO_rt, okO_ok, sqo_nx, sqo_rt, outR_rt, outR_nx, res_d, res_own, res_new, res_ob, asgn_d, asgn_ob, asgn_new, asgn_scr, tru_b, bNot, bAnd, bOr, eAnd, eOr, eNot, eCh, eFld, List.map_cons, List.map_nil, List.length_cons, List.length_nil, List.replicate, List.cons_append, List.nil_append, List.append_nil, List.getElem?_cons_zero, List.getElem?_cons_succ, List.set_cons_zero, List.set_cons_succ, Option.join_some, Nat.reduceAdd, Nat.reduceSub, Nat.reduceLeDiff, Nat.reduceEqDiff, if_true, if_false, ite_true, ite_false, Bool.not_true, Bool.not_false, Bool.false_eq_true, Nat.zero_add, asD_d, asD_new, asL_d, asL_own, asL_new, asQ_d, asQ_own, asQ_new, gPlus_int, gAdd_int, gSub_int, gLt_int, gLe_int, gGt_int, gGe_int, gLtD_int, gLeD_int, ite_d, ite_b, ite_o, ite_e]
  simp only [args_hs]
  simp only [mir, dst, fSq, fSet, fRet, fIf, fNil, fTg, fDrop, fPar, eVar, eC, e2, aCons, aNil, eTup, eLst, eCb, gCall, L3.args_nil, args_d, args_ob, args_new, args_scr, datas_nil, datas_d, datas_new, Option.map_some, bd_rt, bd_ok, bd_none, op_some, okO_rt, okO_ok, sqo_nx, sqo_rt, outR_rt, outR_nx, res_d, res_own, res_new, res_ob, asgn_d, asgn_ob, asgn_new, asgn_scr, tru_b, bNot, bAnd, bOr, eAnd, eOr, eNot, eCh, eFld, List.map_cons, List.map_nil, List.length_cons, List.length_nil, List.replicate, List.cons_append, List.nil_append, List.append_nil, List.getElem?_cons_zero, List.getElem?_cons_succ, List.set_cons_zero, List.set_cons_succ, Option.join_some, Nat.reduceAdd, Nat.reduceSub, Nat.reduceLeDiff, Nat.reduceEqDiff, if_true, if_false, ite_true, ite_false, Bool.not_true, Bool.not_false, Bool.false_eq_true, Nat.zero_add, asD_d, asD_new, asL_d, asL_own, asL_new, asQ_d, asQ_own, asQ_new, gPlus_int, gAdd_int, gSub_int, gLt_int, gLe_int, gGt_int, gGe_int, gLtD_int, gLeD_int, ite_d, ite_b, ite_o, ite_e]
  rw [m_tile, gCnt_lst]
  simp only [mir, dst, fSq, fSet, fRet, fIf, fNil, fTg, fDrop, fPar, eVar, eC, e2, aCons, aNil, eTup, eLst, eCb, gCall, L3.args_nil, args_d, args_ob, args_new, args_scr, datas_nil, datas_d, datas_new, Option.map_some, bd_rt, bd_ok, bd_none, op_some, okO_rt, okO_ok, sqo_nx, sqo_rt, outR_rt, outR_nx, res_d, res_own, res_new, res_ob, asgn_d, asgn_ob, asgn_new, asgn_scr, tru_b, bNot, bAnd, bOr, eAnd, eOr, eNot, eCh, eFld, List.map_cons, List.map_nil, List.length_cons, List.length_nil, List.replicate, List.cons_append, List.nil_append, List.append_nil, List.getElem?_cons_zero, List.getElem?_cons_succ, List.set_cons_zero, List.set_cons_succ, Option.join_some, Nat.reduceAdd, Nat.reduceSub, Nat.reduceLeDiff, Nat.reduceEqDiff, if_true, if_false, ite_true, ite_false, Bool.not_true, Bool.not_false, Bool.false_eq_true, Nat.zero_add, asD_d, asD_new, asL_d, asL_own, asL_new, asQ_d, asQ_own, asQ_new, gPlus_int, gAdd_int, gSub_int, gLt_int, gLe_int, gGt_int, gGe_int, gLtD_int, gLeD_int, ite_d, ite_b, ite_o, ite_e]
  rfl
noncomputable def jok (j : Int) : Bool := decide (0 ≤ j) && decide (j ≤ 2)
noncomputable def handOk (m c : Int) (ps : List (Int × Int)) (j : Int) : Bool := decide (ps.length ≤ 12) && jok j && (ps.map (tok m c ps)).all id && inOrd ps
theorem iLs_is {f : DS → M DV} {δ : DS} {xs : List D} (h : f δ = rt (.d (.list xs))) : iLs f δ = rt xs := by
  unfold iLs
  rw [h]
  rfl
theorem call_end (y z : DV) (x : D) (fo : List DV → M DV) (b : Bool) (h : fo [.d x] = rt (.d (.bool b))) : bd (bd (rt (Out.nx [some y, some (.d x), some z])) (sqo (fRet (eCb (gCall 1 fo) (aCons (eVar 1) aNil))))) outR = rt (.d (.bool b)) := by
  simp only [mir, dst, fSq, fSet, fRet, fIf, fNil, fTg, fDrop, fPar, eVar, eC, e2, aCons, aNil, eTup, eLst, eCb, gCall, L3.args_nil, args_d, args_ob, args_new, args_scr, datas_nil, datas_d, datas_new, Option.map_some, bd_rt, bd_ok, bd_none, op_some, okO_rt, okO_ok, sqo_nx, sqo_rt, outR_rt, outR_nx, res_d, res_own, res_new, res_ob, asgn_d, asgn_ob, asgn_new, asgn_scr, tru_b, bNot, bAnd, bOr, eAnd, eOr, eNot, eCh, eFld, List.map_cons, List.map_nil, List.length_cons, List.length_nil, List.replicate, List.cons_append, List.nil_append, List.append_nil, List.getElem?_cons_zero, List.getElem?_cons_succ, List.set_cons_zero, List.set_cons_succ, Option.join_some, Nat.reduceAdd, Nat.reduceSub, Nat.reduceLeDiff, Nat.reduceEqDiff, if_true, if_false, ite_true, ite_false, Bool.not_true, Bool.not_false, Bool.false_eq_true, Nat.zero_add, asD_d, asD_new, asL_d, asL_own, asL_new, asQ_d, asQ_own, asQ_new, gPlus_int, gAdd_int, gSub_int, gLt_int, gLe_int, gGt_int, gGe_int, gLtD_int, gLeD_int, ite_d, ite_b, ite_o, ite_e]
  rw [h]
  simp only [mir, dst, fSq, fSet, fRet, fIf, fNil, fTg, fDrop, fPar, eVar, eC, e2, aCons, aNil, eTup, eLst, eCb, gCall, L3.args_nil, args_d, args_ob, args_new, args_scr, datas_nil, datas_d, datas_new, Option.map_some, bd_rt, bd_ok, bd_none, op_some, okO_rt, okO_ok, sqo_nx, sqo_rt, outR_rt, outR_nx, res_d, res_own, res_new, res_ob, asgn_d, asgn_ob, asgn_new, asgn_scr, tru_b, bNot, bAnd, bOr, eAnd, eOr, eNot, eCh, eFld, List.map_cons, List.map_nil, List.length_cons, List.length_nil, List.replicate, List.cons_append, List.nil_append, List.append_nil, List.getElem?_cons_zero, List.getElem?_cons_succ, List.set_cons_zero, List.set_cons_succ, Option.join_some, Nat.reduceAdd, Nat.reduceSub, Nat.reduceLeDiff, Nat.reduceEqDiff, if_true, if_false, ite_true, ite_false, Bool.not_true, Bool.not_false, Bool.false_eq_true, Nat.zero_add, asD_d, asD_new, asL_d, asL_own, asL_new, asQ_d, asQ_own, asQ_new, gPlus_int, gAdd_int, gSub_int, gLt_int, gLe_int, gGt_int, gGe_int, gLtD_int, gLeD_int, ite_d, ite_b, ite_o, ite_e]
theorem m_hand (C : Addr) (m c j : Int) (ps : List (Int × Int)) (hl : ps.length ≤ 1000) : M_is_hand C [hs C m c, .d (.list (ps.map pr)), .d (.int j)] = rt (.d (.bool (handOk m c ps j))) := by
  have ho := m_order ps hl
  unfold M_is_hand F_is_hand
  generalize M_is_in_order = fo at ho ⊢
  simp only [mir, dst, fSq, fSet, fRet, fIf, fNil, fTg, fDrop, fPar, eVar, eC, e2, aCons, aNil, eTup, eLst, eCb, gCall, L3.args_nil, args_d, args_ob, args_new, args_scr, datas_nil, datas_d, datas_new, Option.map_some, bd_rt, bd_ok, bd_none, op_some, okO_rt, okO_ok, sqo_nx, sqo_rt, outR_rt, outR_nx, res_d, res_own, res_new, res_ob, asgn_d, asgn_ob, asgn_new, asgn_scr, tru_b, bNot, bAnd, bOr, eAnd, eOr, eNot, eCh, eFld, List.map_cons, List.map_nil, List.length_cons, List.length_nil, List.replicate, List.cons_append, List.nil_append, List.append_nil, List.getElem?_cons_zero, List.getElem?_cons_succ, List.set_cons_zero, List.set_cons_succ, Option.join_some, Nat.reduceAdd, Nat.reduceSub, Nat.reduceLeDiff, Nat.reduceEqDiff, if_true, if_false, ite_true, ite_false, Bool.not_true, Bool.not_false, Bool.false_eq_true, Nat.zero_add, asD_d, asD_new, asL_d, asL_own, asL_new, asQ_d, asQ_own, asQ_new, gPlus_int, gAdd_int, gSub_int, gLt_int, gLe_int, gGt_int, gGe_int, gLtD_int, gLeD_int, ite_d, ite_b, ite_o, ite_e]
  rw [gLen_prs]
  simp only [mir, dst, fSq, fSet, fRet, fIf, fNil, fTg, fDrop, fPar, eVar, eC, e2, aCons, aNil, eTup, eLst, eCb, gCall, L3.args_nil, args_d, args_ob, args_new, args_scr, datas_nil, datas_d, datas_new, Option.map_some, bd_rt, bd_ok, bd_none, op_some, okO_rt, okO_ok, sqo_nx, sqo_rt, outR_rt, outR_nx, res_d, res_own, res_new, res_ob, asgn_d, asgn_ob, asgn_new, asgn_scr, tru_b, bNot, bAnd, bOr, eAnd, eOr, eNot, eCh, eFld, List.map_cons, List.map_nil, List.length_cons, List.length_nil, List.replicate, List.cons_append, List.nil_append, List.append_nil, List.getElem?_cons_zero, List.getElem?_cons_succ, List.set_cons_zero, List.set_cons_succ, Option.join_some, Nat.reduceAdd, Nat.reduceSub, Nat.reduceLeDiff, Nat.reduceEqDiff, if_true, if_false, ite_true, ite_false, Bool.not_true, Bool.not_false, Bool.false_eq_true, Nat.zero_add, asD_d, asD_new, asL_d, asL_own, asL_new, asQ_d, asQ_own, asQ_new, gPlus_int, gAdd_int, gSub_int, gLt_int, gLe_int, gGt_int, gGe_int, gLtD_int, gLeD_int, ite_d, ite_b, ite_o, ite_e]
  have ej : (decide (0 ≤ j) && decide (j ≤ 2)) = jok j := rfl
  have el : (decide ((12 : Int) < (ps.length : Int))) = !decide (ps.length ≤ 12) := by
    by_cases h : ps.length ≤ 12
    · rw [decide_eq_true h, decide_eq_false (by lia)]; rfl
    · rw [decide_eq_false h, decide_eq_true (by lia)]; rfl
  rw [ej, el]
  unfold handOk
  cases h12 : decide (ps.length ≤ 12) with
  | false =>
    simp only [Bool.not_false, Bool.true_or, if_true, Bool.false_and]
    simp only [mir, dst, fSq, fSet, fRet, fIf, fNil, fTg, fDrop, fPar, eVar, eC, e2, aCons, aNil, eTup, eLst, eCb, gCall, L3.args_nil, args_d, args_ob, args_new, args_scr, datas_nil, datas_d, datas_new, Option.map_some, bd_rt, bd_ok, bd_none, op_some, okO_rt, okO_ok, sqo_nx, sqo_rt, outR_rt, outR_nx, res_d, res_own, res_new, res_ob, asgn_d, asgn_ob, asgn_new, asgn_scr, tru_b, bNot, bAnd, bOr, eAnd, eOr, eNot, eCh, eFld, List.map_cons, List.map_nil, List.length_cons, List.length_nil, List.replicate, List.cons_append, List.nil_append, List.append_nil, List.getElem?_cons_zero, List.getElem?_cons_succ, List.set_cons_zero, List.set_cons_succ, Option.join_some, Nat.reduceAdd, Nat.reduceSub, Nat.reduceLeDiff, Nat.reduceEqDiff, if_true, if_false, ite_true, ite_false, Bool.not_true, Bool.not_false, Bool.false_eq_true, Nat.zero_add, asD_d, asD_new, asL_d, asL_own, asL_new, asQ_d, asQ_own, asQ_new, gPlus_int, gAdd_int, gSub_int, gLt_int, gLe_int, gGt_int, gGe_int, gLtD_int, gLeD_int, ite_d, ite_b, ite_o, ite_e]
  | true =>
    cases hj : jok j with
    | false =>
      simp only [Bool.not_true, Bool.not_false, Bool.false_or, if_true, Bool.and_false, Bool.false_and]
      simp only [mir, dst, fSq, fSet, fRet, fIf, fNil, fTg, fDrop, fPar, eVar, eC, e2, aCons, aNil, eTup, eLst, eCb, gCall, L3.args_nil, args_d, args_ob, args_new, args_scr, datas_nil, datas_d, datas_new, Option.map_some, bd_rt, bd_ok, bd_none, op_some, okO_rt, okO_ok, sqo_nx, sqo_rt, outR_rt, outR_nx, res_d, res_own, res_new, res_ob, asgn_d, asgn_ob, asgn_new, asgn_scr, tru_b, bNot, bAnd, bOr, eAnd, eOr, eNot, eCh, eFld, List.map_cons, List.map_nil, List.length_cons, List.length_nil, List.replicate, List.cons_append, List.nil_append, List.append_nil, List.getElem?_cons_zero, List.getElem?_cons_succ, List.set_cons_zero, List.set_cons_succ, Option.join_some, Nat.reduceAdd, Nat.reduceSub, Nat.reduceLeDiff, Nat.reduceEqDiff, if_true, if_false, ite_true, ite_false, Bool.not_true, Bool.not_false, Bool.false_eq_true, Nat.zero_add, asD_d, asD_new, asL_d, asL_own, asL_new, asQ_d, asQ_own, asQ_new, gPlus_int, gAdd_int, gSub_int, gLt_int, gLe_int, gGt_int, gGe_int, gLtD_int, gLeD_int, ite_d, ite_b, ite_o, ite_e]
    | true =>
      simp only [Bool.not_true, Bool.false_or, Bool.false_eq_true, if_false, Bool.true_and]
      simp only [mir, dst, fSq, fSet, fRet, fIf, fNil, fTg, fDrop, fPar, eVar, eC, e2, aCons, aNil, eTup, eLst, eCb, gCall, L3.args_nil, args_d, args_ob, args_new, args_scr, datas_nil, datas_d, datas_new, Option.map_some, bd_rt, bd_ok, bd_none, op_some, okO_rt, okO_ok, sqo_nx, sqo_rt, outR_rt, outR_nx, res_d, res_own, res_new, res_ob, asgn_d, asgn_ob, asgn_new, asgn_scr, tru_b, bNot, bAnd, bOr, eAnd, eOr, eNot, eCh, eFld, List.map_cons, List.map_nil, List.length_cons, List.length_nil, List.replicate, List.cons_append, List.nil_append, List.append_nil, List.getElem?_cons_zero, List.getElem?_cons_succ, List.set_cons_zero, List.set_cons_succ, Option.join_some, Nat.reduceAdd, Nat.reduceSub, Nat.reduceLeDiff, Nat.reduceEqDiff, if_true, if_false, ite_true, ite_false, Bool.not_true, Bool.not_false, Bool.false_eq_true, Nat.zero_add, asD_d, asD_new, asL_d, asL_own, asL_new, asQ_d, asQ_own, asQ_new, gPlus_int, gAdd_int, gSub_int, gLt_int, gLe_int, gGt_int, gGe_int, gLtD_int, gLeD_int, ite_d, ite_b, ite_o, ite_e]
      rw [eComp_is (iLs_is rfl) (by rw [List.length_map]; lia) (hand_comp C m c j ps)]
      simp only [mir, dst, fSq, fSet, fRet, fIf, fNil, fTg, fDrop, fPar, eVar, eC, e2, aCons, aNil, eTup, eLst, eCb, gCall, L3.args_nil, args_d, args_ob, args_new, args_scr, datas_nil, datas_d, datas_new, Option.map_some, bd_rt, bd_ok, bd_none, op_some, okO_rt, okO_ok, sqo_nx, sqo_rt, outR_rt, outR_nx, res_d, res_own, res_new, res_ob, asgn_d, asgn_ob, asgn_new, asgn_scr, tru_b, bNot, bAnd, bOr, eAnd, eOr, eNot, eCh, eFld, List.map_cons, List.map_nil, List.length_cons, List.length_nil, List.replicate, List.cons_append, List.nil_append, List.append_nil, List.getElem?_cons_zero, List.getElem?_cons_succ, List.set_cons_zero, List.set_cons_succ, Option.join_some, Nat.reduceAdd, Nat.reduceSub, Nat.reduceLeDiff, Nat.reduceEqDiff, if_true, if_false, ite_true, ite_false, Bool.not_true, Bool.not_false, Bool.false_eq_true, Nat.zero_add, asD_d, asD_new, asL_d, asL_own, asL_new, asQ_d, asQ_own, asQ_new, gPlus_int, gAdd_int, gSub_int, gLt_int, gLe_int, gGt_int, gGe_int, gLtD_int, gLeD_int, ite_d, ite_b, ite_o, ite_e]
      rw [gAll_is]
      simp only [mir, dst, fSq, fSet, fRet, fIf, fNil, fTg, fDrop, fPar, eVar, eC, e2, aCons, aNil, eTup, eLst, eCb, gCall, L3.args_nil, args_d, args_ob, args_new, args_scr, datas_nil, datas_d, datas_new, Option.map_some, bd_rt, bd_ok, bd_none, op_some, okO_rt, okO_ok, sqo_nx, sqo_rt, outR_rt, outR_nx, res_d, res_own, res_new, res_ob, asgn_d, asgn_ob, asgn_new, asgn_scr, tru_b, bNot, bAnd, bOr, eAnd, eOr, eNot, eCh, eFld, List.map_cons, List.map_nil, List.length_cons, List.length_nil, List.replicate, List.cons_append, List.nil_append, List.append_nil, List.getElem?_cons_zero, List.getElem?_cons_succ, List.set_cons_zero, List.set_cons_succ, Option.join_some, Nat.reduceAdd, Nat.reduceSub, Nat.reduceLeDiff, Nat.reduceEqDiff, if_true, if_false, ite_true, ite_false, Bool.not_true, Bool.not_false, Bool.false_eq_true, Nat.zero_add, asD_d, asD_new, asL_d, asL_own, asL_new, asQ_d, asQ_own, asQ_new, gPlus_int, gAdd_int, gSub_int, gLt_int, gLe_int, gGt_int, gGe_int, gLtD_int, gLeD_int, ite_d, ite_b, ite_o, ite_e]
      cases ha : (ps.map (tok m c ps)).all id with
      | false =>
        simp only [Bool.not_false, if_true, Bool.false_and]
        simp only [mir, dst, fSq, fSet, fRet, fIf, fNil, fTg, fDrop, fPar, eVar, eC, e2, aCons, aNil, eTup, eLst, eCb, gCall, L3.args_nil, args_d, args_ob, args_new, args_scr, datas_nil, datas_d, datas_new, Option.map_some, bd_rt, bd_ok, bd_none, op_some, okO_rt, okO_ok, sqo_nx, sqo_rt, outR_rt, outR_nx, res_d, res_own, res_new, res_ob, asgn_d, asgn_ob, asgn_new, asgn_scr, tru_b, bNot, bAnd, bOr, eAnd, eOr, eNot, eCh, eFld, List.map_cons, List.map_nil, List.length_cons, List.length_nil, List.replicate, List.cons_append, List.nil_append, List.append_nil, List.getElem?_cons_zero, List.getElem?_cons_succ, List.set_cons_zero, List.set_cons_succ, Option.join_some, Nat.reduceAdd, Nat.reduceSub, Nat.reduceLeDiff, Nat.reduceEqDiff, if_true, if_false, ite_true, ite_false, Bool.not_true, Bool.not_false, Bool.false_eq_true, Nat.zero_add, asD_d, asD_new, asL_d, asL_own, asL_new, asQ_d, asQ_own, asQ_new, gPlus_int, gAdd_int, gSub_int, gLt_int, gLe_int, gGt_int, gGe_int, gLtD_int, gLeD_int, ite_d, ite_b, ite_o, ite_e]
      | true =>
        simp only [Bool.not_true, Bool.false_eq_true, if_false, Bool.true_and]
        exact call_end _ _ _ _ _ ho
end LW
set_option Elab.async false
set_option linter.all false
set_option maxRecDepth 100000
set_option maxHeartbeats 1000000
set_option autoImplicit false
namespace LW
open PySem PySem.Spec L2 L3
section
variable {F G : DS → M Out} {f fa fb fc : DS → M DV} {fr : DS → M (List DV)} {gc : DS → M Bool} {g : DV → DV → M DV} {δ δ' : DS} {x y z : DV} {k : Bool}
theorem sq_nx (h : F δ = rt (.nx δ')) : fSq F G δ = G δ' := by unfold fSq; rw [h]; rfl
theorem sq_rt (h : F δ = rt (.rt x)) : fSq F G δ = rt (.rt x) := by unfold fSq; rw [h]; rfl
theorem if_is (h : gc δ = rt k) : fIf gc F G δ = if k = true then F δ else G δ := by unfold fIf; rw [h]; rfl
theorem set_is {i : Nat} (h : f δ = rt x) (ha : asgn x = some y) : fSet i f δ = rt (.nx (δ.set i (some y))) := by unfold fSet; rw [h, bd_rt, ha]; rfl
theorem ret_is (h : f δ = rt x) : fRet f δ = rt (.rt x) := by unfold fRet; rw [h]; rfl
theorem e2_is (h1 : fa δ = rt x) (h2 : fb δ = rt y) : e2 g fa fb δ = g x y := by unfold e2; rw [h1, bd_rt, h2]; rfl
theorem a1_is (h1 : fa δ = rt x) : aCons fa aNil δ = rt [x] := by unfold aCons; rw [h1]; rfl
theorem a2_is (h1 : fa δ = rt x) (h2 : fb δ = rt y) : aCons fa (aCons fb aNil) δ = rt [x, y] := by
  have := a1_is h2
  unfold aCons at this ⊢
  rw [h1, bd_rt, this]; rfl
theorem a3_is (h1 : fa δ = rt x) (h2 : fb δ = rt y) (h3 : fc δ = rt z) : aCons fa (aCons fb (aCons fc aNil)) δ = rt [x, y, z] := by
  have := a2_is h2 h3
  unfold aCons at this ⊢
  rw [h1, bd_rt, this]; rfl
theorem cb_is {G : List DV → M DV} {xs : List DV} (h : fr δ = rt xs) : eCb G fr δ = G xs := by unfold eCb; rw [h]; rfl
theorem call_is {n : Nat} {fm : List DV → M DV} {xs ys : List DV} (h : fr δ = rt xs) (ha : args xs = some ys) (hn : ys.length = n) (hm : fm ys = rt x) : eCb (gCall n fm) fr δ = rt x := by
  rw [cb_is h]
  unfold gCall
  rw [ha, op_some, bd_rt, if_pos hn, hm]; rfl
theorem t2_is {a b : D} (h1 : fa δ = rt (.d a)) (h2 : fb δ = rt (.d b)) : eTup (aCons fa (aCons fb aNil)) δ = rt (.d (.tuple [a, b])) := by
  unfold eTup
  rw [a2_is h1 h2]
  rfl
theorem tst_is {b : Bool} (h : f δ = rt (.d (.bool b))) : (fun δ => bd (f δ) tru) δ = rt b := by
  show bd (f δ) tru = _
  rw [h]; rfl
theorem not_is {ga : DS → M Bool} {a : Bool} (h1 : ga δ = rt a) : bNot ga δ = rt (!a) := by
  unfold bNot
  rw [h1, bd_rt]
theorem cellE {K : PySem.W.Frag} {ns : List Int} {k : Int} (h1 : fa δ = rt (.scr K ns)) (h2 : fb δ = rt (.d (.int k))) (hk : 0 ≤ k) : eCb (gCall 2 (M__law_cell_at K)) (aCons fa (aCons fb aNil)) δ = rt (.d (.int (cellAt ns k))) :=
  call_is (a2_is h1 h2) rfl rfl (m_cell K ns k hk)
end
theorem gEq_int (a b : Int) : gEq false (.d (.int a)) (.d (.int b)) = rt (.d (.bool (a == b))) := rfl
noncomputable def tB : DS → M Out := fIf (bAnd (fun δ => bd (e2 gLtD (eCnt (eVar 2) (eVar 3)) (eC (.int 2)) δ) tru) (fun δ => bd (e2 gLtD (eCb gLen (aCons (eVar 2) aNil)) (eVar 1) δ) tru)) (fApp 2 (eVar 3)) fNil
theorem cnt_is {fo fe : DS → M DV} {δ : DS} {x y : DV} {xs : List D} (h1 : fo δ = rt x) (hx : asL x = some xs) (h2 : fe δ = rt y) : eCnt fo fe δ = gCnt x y := by
  unfold eCnt
  rw [h1, bd_rt, hx, op_some, bd_rt, h2, bd_rt]
end LW
set_option Elab.async false
set_option linter.all false
set_option maxRecDepth 100000
set_option maxHeartbeats 1000000
set_option autoImplicit false
namespace LW
open PySem PySem.Spec L2 L3
noncomputable def hB (K : PySem.W.Frag) : DS → M Out := (fSq (fSet 7 (eCb (gCall 2 (M__law_cell_at K)) (aCons (eVar 0) (aCons (e2 gPlus (eVar 1) (eVar 6)) aNil)))) (fSq (fTg (sTup 2 (sCons (sName 8) (sCons (sName 9) sNil))) (eTup (aCons (e2 gPlus (eC (.int 1)) (eCb (gCall 3 (M__law_mix)) (aCons (eVar 7) (aCons (eC (.int 1)) (aCons (eVar 2) aNil))))) (aCons (eCb (gCall 3 (M__law_mix)) (aCons (eVar 7) (aCons (eC (.int 2)) (aCons (eVar 3) aNil)))) aNil)))) (fSq (fSet 10 (e2 gPlus (eC (.int 2)) (eCb (gCall 3 (M__law_mix)) (aCons (eVar 7) (aCons (eC (.int 3)) (aCons (eC (.int 4)) aNil)))))) (fSq (fIf (fun δ => bd (e2 (gEq false) (eCb (gCall 3 (M__law_mix)) (aCons (eVar 7) (aCons (eC (.int 4)) (aCons (eC (.int 2)) aNil)))) (eC (.int 0)) δ) tru) (fSet 5 (e2 gPlus (eVar 5) (eComp 1 [9] (iR2 (aCons (eVar 8) (aCons (e2 gPlus (eCb gMin (aCons (eVar 2) (aCons (e2 gSub (e2 gPlus (eVar 8) (eVar 10)) (eC (.int 1))) aNil))) (eC (.int 1))) aNil))) (sName 0) bYes (eTup (aCons (eVar 0) (aCons (eVar 1) aNil)))))) (fSet 5 (e2 gPlus (eVar 5) (eComp 1 [8, 7] (iR1 (aCons (eVar 3) aNil)) (sName 0) (fun δ => bd (e2 gGt (eCb (gCall 3 (M__law_mix)) (aCons (eVar 2) (aCons (e2 gPlus (eC (.int 10)) (eVar 0)) (aCons (eC (.int 4)) aNil)))) (eC (.int 0)) δ) tru) (eTup (aCons (eVar 1) (aCons (eVar 0) aNil))))))) (fIf (fun δ => bd (e2 (gEq false) (eCb (gCall 3 (M__law_mix)) (aCons (eVar 7) (aCons (eC (.int 5)) (aCons (eC (.int 3)) aNil)))) (eC (.int 0)) δ) tru) (fApp 5 (eTup (aCons (e2 gPlus (eC (.int 1)) (eCb (gCall 3 (M__law_mix)) (aCons (eVar 7) (aCons (eC (.int 6)) (aCons (eVar 2) aNil))))) (aCons (eCb (gCall 3 (M__law_mix)) (aCons (eVar 7) (aCons (eC (.int 7)) (aCons (eVar 3) aNil)))) aNil)))) fNil)))))
section
variable (K : PySem.W.Frag) (ns : List Int) (m c st lim : Int)
noncomputable def hδ (ts : List (Int × Int)) (x6 x7 x8 x9 x10 : Option DV) : DS := [some (.scr K ns), some (.d (.int st)), some (.d (.int m)), some (.d (.int c)), some (.d (.int lim)), some (.own (ts.map pr)), x6, x7, x8, x9, x10]
theorem tg_is {sf : D → DS → Option DS} {f : DS → M DV} {δ δ' : DS} {x : DV} {d : D} (h : f δ = rt x) (hd : asD x = some d) (hs : sf d δ = some δ') : fTg sf f δ = rt (.nx δ') := by
  unfold fTg
  rw [h, bd_rt, hd, op_some, bd_rt, hs]
  rfl
variable {m c}
end
end LW
set_option Elab.async false
set_option linter.all false
set_option maxRecDepth 100000
set_option maxHeartbeats 1000000
set_option autoImplicit false
namespace LW
open PySem PySem.Spec L2 L3
end LW
set_option Elab.async false
set_option linter.all false
set_option maxRecDepth 100000
set_option maxHeartbeats 1000000
set_option autoImplicit false
namespace LW
open PySem PySem.Spec L2 L3
section
variable (m c : Int) (ps : List (Int × Int)) (cell : Int)
end
end LW
set_option Elab.async false
set_option linter.all false
set_option maxRecDepth 100000
set_option maxHeartbeats 1000000
set_option autoImplicit false
namespace LW
open PySem PySem.Spec L2 L3
noncomputable def F_is_run (C : Addr) : DS → M Out := (fSq (fSet 4 (e2 gSub (e2 gPlus3 (eVar 2) (eVar 3)) (eC (.int 1)))) (fRet (eAnd (e2 gGe (eVar 3) (eC (.int 3))) (eAnd (eCb (gCall 2 (M_is_tile C)) (aCons (eVar 0) (aCons (eTup (aCons (eVar 2) (aCons (eVar 1) aNil))) aNil))) (eCb (gCall 2 (M_is_tile C)) (aCons (eVar 0) (aCons (eTup (aCons (eVar 4) (aCons (eVar 1) aNil))) aNil)))))))
noncomputable def M_is_run (C : Addr) : List DV → M DV := mir ["house", "colour", "first", "size", "last"] (F_is_run C)
noncomputable def F_is_group (C : Addr) : DS → M Out := (fSq (fIf (fun δ => bd (e2 gLtD (eCb gLen (aCons (eVar 2) aNil)) (eC (.int 3)) δ) tru) (fRet (eC (.bool false))) fNil) (fSq (fIf (bNot (fun δ => bd ((eCb gAll (aCons (eComp 1 [0, 1] (iTp (eVar 2)) (sName 0) bYes (eCb (gCall 2 (M_is_tile C)) (aCons (eVar 1) (aCons (eTup (aCons (eVar 2) (aCons (eVar 0) aNil))) aNil)))) aNil)) δ) tru)) (fRet (eC (.bool false))) fNil) (fRet (eCb gAll (aCons (eComp 1 [2] (iR2 (aCons (eC (.int 1)) (aCons (eCb gLen (aCons (eVar 2) aNil)) aNil))) (sName 0) bYes (e2 gLtD (e2 gIx (eVar 1) (e2 gSub (eVar 0) (eC (.int 1)))) (e2 gIx (eVar 1) (eVar 0)))) aNil)))))
noncomputable def M_is_group (C : Addr) : List DV → M DV := mir ["house", "number", "colours"] (F_is_group C)
noncomputable def F_is_meld (C : Addr) : DS → M Out := (fSq (fIf (fun δ => bd (e2 (gEq false) (e2 gIx (eVar 1) (eC (.int 0))) (eC (.str "run")) δ) tru) (fRet (eCb (gCall 4 (M_is_run C)) (aCons (eVar 0) (aCons (e2 gIx (eVar 1) (eC (.int 1))) (aCons (e2 gIx (eVar 1) (eC (.int 2))) (aCons (e2 gIx (eVar 1) (eC (.int 3))) aNil)))))) fNil) (fRet (eAnd (e2 (gEq false) (e2 gIx (eVar 1) (eC (.int 0))) (eC (.str "group"))) (eCb (gCall 3 (M_is_group C)) (aCons (eVar 0) (aCons (e2 gIx (eVar 1) (eC (.int 1))) (aCons (e2 gIx (eVar 1) (eC (.int 2))) aNil)))))))
noncomputable def M_is_meld (C : Addr) : List DV → M DV := mir ["house", "meld"] (F_is_meld C)
noncomputable def F_tiles_of (C : Addr) (E_BadLaying : Addr) : DS → M Out := (fSq (fIf (bNot (fun δ => bd ((eCb (gCall 2 (M_is_meld C)) (aCons (eVar 0) (aCons (eVar 1) aNil))) δ) tru)) (fun _ => some (.error (.ref E_BadLaying))) fNil) (fSq (fIf (fun δ => bd (e2 (gEq false) (e2 gIx (eVar 1) (eC (.int 0))) (eC (.str "run")) δ) tru) (fRet (eComp 1 [1] (iR1 (aCons (e2 gIx (eVar 1) (eC (.int 3))) aNil)) (sName 0) bYes (eTup (aCons (e2 gPlus3 (e2 gIx (eVar 1) (eC (.int 2))) (eVar 0)) (aCons (e2 gIx (eVar 1) (eC (.int 1))) aNil))))) fNil) (fRet (eComp 1 [1] (iTp (e2 gIx (eVar 1) (eC (.int 2)))) (sName 0) bYes (eTup (aCons (e2 gIx (eVar 1) (eC (.int 1))) (aCons (eVar 0) aNil)))))))
noncomputable def M_tiles_of (C : Addr) (E_BadLaying : Addr) : List DV → M DV := mir ["house", "meld"] (F_tiles_of C E_BadLaying)
section
variable {F G : DS → M Out} {f fa fb fc fd : DS → M DV} {fr : DS → M (List DV)} {gc : DS → M Bool} {g : DV → DV → M DV} {δ δ' : DS} {x y z u : DV} {k : Bool}
theorem an_is {a b : Bool} (h1 : fa δ = rt (.d (.bool a))) (h2 : fb δ = rt (.d (.bool b))) : eAnd fa fb δ = rt (.d (.bool (a && b))) := by
  unfold eAnd
  rw [h1, bd_rt, tru_b, bd_rt, h2]
  cases a <;> rfl
theorem a4_is (h1 : fa δ = rt x) (h2 : fb δ = rt y) (h3 : fc δ = rt z) (h4 : fd δ = rt u) : aCons fa (aCons fb (aCons fc (aCons fd aNil))) δ = rt [x, y, z, u] := by
  have := a3_is h2 h3 h4
  unfold aCons at this ⊢
  rw [h1, bd_rt, this]; rfl
theorem if_yes (h : gc δ = rt true) : fIf gc F G δ = F δ := by rw [if_is h]; rfl
theorem if_no (h : gc δ = rt false) : fIf gc F G δ = G δ := by rw [if_is h]; rfl
theorem iLn_is {xs : List D} (h : f δ = rt (.new xs)) : iLs f δ = rt xs := by unfold iLs; rw [h]; rfl
theorem ext_is {i : Nat} {xs ys : List D} (hi : δ[i]? = some (some (.own xs))) (h : f δ = rt (.new ys)) (hl : xs.length + ys.length ≤ 1000000) : fExt i f δ = rt (.nx (δ.set i (some (.own (xs ++ ys))))) := by
  unfold fExt
  rw [hi]
  simp only
  rw [h, bd_rt]
  exact if_pos hl
end
theorem gPlus3_int (i j : Int) : gPlus3 (.d (.int i)) (.d (.int j)) = rt (.d (.int (i + j))) := rfl
noncomputable def rn (c f n : Int) : D := .tuple [.str "run", .int c, .int f, .int n]
noncomputable def tp (cs : List Int) : D := .tuple (cs.map PyData.int)
theorem eqv_rr : PyData.eqv (.str "run") (.str "run") = true := by decide +kernel
theorem gEq_s {a b : Str} {k : Bool} (h : PyData.eqv (.str a) (.str b) = k) : gEq false (.d (.str a)) (.d (.str b)) = rt (.d (.bool k)) := by
  unfold gEq
  rw [asQ_d, asQ_d]
  simp only [Bool.false_eq_true, if_false, h]
  exact if_pos (by unfold PyData.depth; lia)
noncomputable def runOk (m c col f n : Int) : Bool := decide (3 ≤ n) && (tileOk m c (f, col) && tileOk m c (f + n - 1, col))
theorem tileE {C : Addr} {m c a b : Int} {fa fb : DS → M DV} {δ : DS} (h1 : fa δ = rt (hs C m c)) (h2 : fb δ = rt (.d (pr (a, b)))) : eCb (gCall 2 (M_is_tile C)) (aCons fa (aCons fb aNil)) δ = rt (.d (.bool (tileOk m c (a, b)))) :=
  call_is (a2_is h1 h2) rfl rfl (m_tile C m c (a, b))
theorem m_is_run (C : Addr) (m c col f n : Int) : M_is_run C [hs C m c, .d (.int col), .d (.int f), .d (.int n)] = rt (.d (.bool (runOk m c col f n))) := by
  unfold M_is_run F_is_run mir
  have hd : dst ["house", "colour", "first", "size", "last"] [hs C m c, .d (.int col), .d (.int f), .d (.int n)] = [some (hs C m c), some (.d (.int col)), some (.d (.int f)), some (.d (.int n)), none] := rfl
  rw [hd]
  have s1 : fSet 4 (e2 gSub (e2 gPlus3 (eVar 2) (eVar 3)) (eC (.int 1))) [some (hs C m c), some (.d (.int col)), some (.d (.int f)), some (.d (.int n)), none] = rt (.nx [some (hs C m c), some (.d (.int col)), some (.d (.int f)), some (.d (.int n)), some (.d (.int (f + n - 1)))]) :=
    set_is (x := .d (.int (f + n - 1))) ((e2_is ((e2_is rfl rfl).trans (gPlus3_int f n)) rfl).trans (gSub_int _ _)) rfl
  rw [sq_nx s1]
  rw [ret_is (an_is ((e2_is (x := .d (.int n)) (y := .d (.int 3)) rfl rfl).trans (gGe_int _ _)) (an_is (tileE (a := f) (b := col) rfl (t2_is rfl rfl)) (tileE (a := f + n - 1) (b := col) rfl (t2_is rfl rfl))))]
  rfl
theorem m_meld_run (C : Addr) (m c col f n : Int) : M_is_meld C [hs C m c, .d (rn col f n)] = rt (.d (.bool (runOk m c col f n))) := by
  unfold M_is_meld F_is_meld mir
  have hd : dst ["house", "meld"] [hs C m c, .d (rn col f n)] = [some (hs C m c), some (.d (rn col f n))] := rfl
  rw [hd]
  have t1 : (fun δ => bd (e2 (gEq false) (e2 gIx (eVar 1) (eC (.int 0))) (eC (.str "run")) δ) tru) [some (hs C m c), some (.d (rn col f n))] = rt true :=
    tst_is ((e2_is ((e2_is (x := .d (rn col f n)) rfl rfl).trans (gIx_tup rfl)) rfl).trans (gEq_s eqv_rr))
  have i1 : e2 gIx (eVar 1) (eC (.int 1)) [some (hs C m c), some (.d (rn col f n))] = rt (.d (.int col)) := (e2_is (x := .d (rn col f n)) rfl rfl).trans (gIx_tup rfl)
  have i2 : e2 gIx (eVar 1) (eC (.int 2)) [some (hs C m c), some (.d (rn col f n))] = rt (.d (.int f)) := (e2_is (x := .d (rn col f n)) rfl rfl).trans (gIx_tup rfl)
  have i3 : e2 gIx (eVar 1) (eC (.int 3)) [some (hs C m c), some (.d (rn col f n))] = rt (.d (.int n)) := (e2_is (x := .d (rn col f n)) rfl rfl).trans (gIx_tup rfl)
  rw [sq_rt ((if_yes t1).trans (ret_is (call_is (n := 4) (a4_is (fa := eVar 0) (x := hs C m c) rfl i1 i2 i3) rfl rfl (m_is_run C m c col f n))))]
  rfl
noncomputable def tilesR (col f n : Int) : List D := (List.range n.toNat).map fun (k : Nat) => pr (f + (k : Int), col)
theorem m_tiles_run (C E : Addr) (m c col f n : Int) (h0 : -1000 ≤ n) (h1 : n ≤ 1000) : M_tiles_of C E [hs C m c, .d (rn col f n)] = if runOk m c col f n = true then rt (.new (tilesR col f n)) else some (.error (.ref E)) := by
  unfold M_tiles_of F_tiles_of mir
  have hd : dst ["house", "meld"] [hs C m c, .d (rn col f n)] = [some (hs C m c), some (.d (rn col f n))] := rfl
  rw [hd]
  have t0 : (bNot (fun δ => bd ((eCb (gCall 2 (M_is_meld C)) (aCons (eVar 0) (aCons (eVar 1) aNil))) δ) tru)) [some (hs C m c), some (.d (rn col f n))] = rt (!runOk m c col f n) :=
    not_is (tst_is (call_is (a2_is (x := hs C m c) (y := .d (rn col f n)) rfl rfl) rfl rfl (m_meld_run C m c col f n)))
  cases hr : runOk m c col f n with
  | false =>
    rw [hr] at t0
    have : fIf (bNot (fun δ => bd ((eCb (gCall 2 (M_is_meld C)) (aCons (eVar 0) (aCons (eVar 1) aNil))) δ) tru)) (fun _ => some (.error (.ref E))) fNil [some (hs C m c), some (.d (rn col f n))] = some (.error (.ref E)) := if_yes t0
    unfold fSq
    rw [this]
    rfl
  | true =>
    rw [hr] at t0
    rw [sq_nx ((if_no t0).trans (show fNil _ = _ from rfl))]
    have t1 : (fun δ => bd (e2 (gEq false) (e2 gIx (eVar 1) (eC (.int 0))) (eC (.str "run")) δ) tru) [some (hs C m c), some (.d (rn col f n))] = rt true :=
      tst_is ((e2_is ((e2_is (x := .d (rn col f n)) rfl rfl).trans (gIx_tup rfl)) rfl).trans (gEq_s eqv_rr))
    have i3 : e2 gIx (eVar 1) (eC (.int 3)) [some (hs C m c), some (.d (rn col f n))] = rt (.d (.int n)) := (e2_is (x := .d (rn col f n)) rfl rfl).trans (gIx_tup rfl)
    have c1 : compD (sName 0) bYes (eTup (aCons (e2 gPlus3 (e2 gIx (eVar 1) (eC (.int 2))) (eVar 0)) (aCons (e2 gIx (eVar 1) (eC (.int 1))) aNil))) (subD 1 [1] [some (hs C m c), some (.d (rn col f n))]) (runI 0 n.toNat) = some (tilesR col f n) := by
      unfold runI tilesR
      refine comp_by fun k hk => ?_
      have q1 : e2 gIx (eVar 1) (eC (.int 2)) ((subD 1 [1] [some (hs C m c), some (.d (rn col f n))]).set 0 (some (.d (.int (0 + (k : Int)))))) = rt (.d (.int f)) := (e2_is (x := .d (rn col f n)) rfl rfl).trans (gIx_tup rfl)
      have q2 : e2 gIx (eVar 1) (eC (.int 1)) ((subD 1 [1] [some (hs C m c), some (.d (rn col f n))]).set 0 (some (.d (.int (0 + (k : Int)))))) = rt (.d (.int col)) := (e2_is (x := .d (rn col f n)) rfl rfl).trans (gIx_tup rfl)
      refine (t2_is ((e2_is (y := .d (.int (0 + (k : Int)))) q1 rfl).trans (gPlus3_int _ _)) q2).trans ?_
      rw [Int.zero_add]; rfl
    rw [sq_rt ((if_yes t1).trans (ret_is (eComp_is (iR1_is (a1_is i3) h0 h1) (by rw [runI_len]; lia) c1)))]
    rfl
end LW
set_option Elab.async false
set_option linter.all false
set_option maxRecDepth 100000
set_option maxHeartbeats 1000000
set_option autoImplicit false
namespace LW
open PySem PySem.Spec L2 L3
theorem loop_I {α : Type} {f : α → D} {i N : Nat} {B : DS → M Out} {all : List α} (I : List α → DS → Prop)
    (h : ∀ pre a δ, a ∈ all → pre.length < N → I pre δ → ∃ δ', B (δ.set i (some (.d (f a)))) = rt (.nx δ') ∧ I (pre ++ [a]) δ') :
    ∀ (as pre : List α) (δ : DS), (∀ a ∈ as, a ∈ all) → pre.length + as.length ≤ N → I pre δ → ∃ δ', loopD (sName i) B (as.map f) δ = rt (.nx δ') ∧ I (pre ++ as) δ'
  | [], pre, δ, _, _, hI => ⟨δ, rfl, by rw [List.append_nil]; exact hI⟩
  | a :: as, pre, δ, ha, hn, hI => by
    simp only [List.length_cons] at hn
    obtain ⟨δ1, e1, h1⟩ := h pre a δ (ha a List.mem_cons_self) (by lia) hI
    obtain ⟨δ2, e2, h2⟩ := loop_I I h as (pre ++ [a]) δ1 (fun x hx => ha x (List.mem_cons_of_mem _ hx)) (by simp; lia) h1
    refine ⟨δ2, ?_, by rw [List.append_assoc] at h2; exact h2⟩
    rw [List.map_cons]
    unfold loopD
    have hs : sName i (f a) δ = some (δ.set i (some (.d (f a)))) := rfl
    rw [hs, op_some, bd_rt, e1, bd_rt, lpo_nx]
    exact e2
section
variable (C : Addr) (m c : Nat)
end
section
variable (C : Addr) (m : Int)
end
end LW
set_option Elab.async false
set_option linter.all false
set_option maxRecDepth 100000
set_option maxHeartbeats 1000000
set_option autoImplicit false
namespace LW
open PySem PySem.Spec L2 L3
section
variable {F G : DS → M Out} {f fa fb fc : DS → M DV} {fr : DS → M (List DV)} {gc : DS → M Bool} {g : DV → DV → M DV} {δ δ' : DS} {x y z : DV} {k : Bool} {r : M Out}
theorem sqN (h : F δ = rt (.nx δ')) (h2 : G δ' = r) : fSq F G δ = r := (sq_nx h).trans h2
theorem ifY (h : gc δ = rt true) (h2 : F δ = r) : fIf gc F G δ = r := (if_is h).trans h2
theorem ifF (h : gc δ = rt false) (h2 : G δ = r) : fIf gc F G δ = r := (if_is h).trans h2
theorem setN {i : Nat} (h : f δ = rt x) (ha : asgn x = some y) (h2 : δ.set i (some y) = δ') : fSet i f δ = rt (.nx δ') := by rw [set_is h ha, h2]
theorem callX_is {n : Nat} {fm : List DV → M DV} {xs ys : List DV} {w : M DV} (h : fr δ = rt xs) (ha : args xs = some ys) (hn : ys.length = n) (hm : fm ys = w) : eCb (gCallX n fm) fr δ = w := by
  rw [cb_is h]
  unfold gCallX
  rw [ha, op_some, bd_rt, if_pos hn, hm]
theorem drop_is (h : f δ = rt x) : fDrop f δ = rt (.nx δ) := by unfold fDrop; rw [h]; rfl
theorem drop_er {c : Value} (h : f δ = some (.error c)) : fDrop f δ = some (.error c) := by unfold fDrop; rw [h]; rfl
theorem sq_er {c : Value} (h : F δ = some (.error c)) : fSq F G δ = some (.error c) := by unfold fSq; rw [h]; rfl
theorem e2_er {c : Value} (h1 : fa δ = rt x) (h2 : fb δ = some (.error c)) : e2 g fa fb δ = some (.error c) := by unfold e2; rw [h1, bd_rt, h2]; rfl
theorem e2_er1 {c : Value} (h1 : fa δ = some (.error c)) : e2 g fa fb δ = some (.error c) := by unfold e2; rw [h1]; rfl
theorem cb_er {c : Value} {Gm : List DV → M DV} (h : fr δ = some (.error c)) : eCb Gm fr δ = some (.error c) := by unfold eCb; rw [h]; rfl
theorem ac_er {c : Value} (h : fa δ = some (.error c)) : aCons fa fr δ = some (.error c) := by unfold aCons; rw [h]; rfl
theorem ret_er {c : Value} (h : f δ = some (.error c)) : fRet f δ = some (.error c) := by unfold fRet; rw [h]; rfl
theorem mir_is {N : List Str} {xs : List DV} (h : F (dst N xs) = rt (.rt x)) : mir N F xs = rt (res x) := by unfold mir; rw [h]; rfl
theorem mir_er {N : List Str} {xs : List DV} {c : Value} (h : F (dst N xs) = some (.error c)) : mir N F xs = some (.error c) := by unfold mir; rw [h]; rfl
theorem or_yes {ga gb : DS → M Bool} (h1 : ga δ = rt true) : bOr ga gb δ = rt true := by unfold bOr; rw [h1]; rfl
theorem or_no {ga gb : DS → M Bool} {b : Bool} (h1 : ga δ = rt false) (h2 : gb δ = rt b) : bOr ga gb δ = rt b := by unfold bOr; rw [h1, bd_rt]; exact h2
theorem not_is' {ga : DS → M Bool} {a b : Bool} (h1 : ga δ = rt a) (hb : (!a) = b) : bNot ga δ = rt b := by rw [not_is h1, hb]
end
theorem loop_all {i : Nat} {B : DS → M Out} {I : DS → Prop} : ∀ (xs : List D) (δ : DS), (∀ x ∈ xs, ∀ δ, I δ → ∃ δ', B (δ.set i (some (.d x))) = rt (.nx δ') ∧ I δ') → I δ → ∃ δ', loopD (sName i) B xs δ = rt (.nx δ') ∧ I δ'
  | [], δ, _, hI => ⟨δ, rfl, hI⟩
  | x :: xs, δ, h, hI => by
    obtain ⟨δ1, e1, h1⟩ := h x List.mem_cons_self δ hI
    obtain ⟨δ2, e2, h2⟩ := loop_all xs δ1 (fun y hy => h y (List.mem_cons_of_mem _ hy)) h1
    refine ⟨δ2, ?_, h2⟩
    unfold loopD
    have hs : sName i x δ = some (δ.set i (some (.d x))) := rfl
    rw [hs, op_some, bd_rt, e1, bd_rt, lpo_nx]
    exact e2
theorem for_is {fi : DS → M (List D)} {sf : D → DS → Option DS} {B : DS → M Out} {δ : DS} {xs : List D} {r : M Out} (h : fi δ = rt xs) (h2 : loopD sf B xs δ = r) : fFor fi sf B δ = r := by
  unfold fFor
  rw [h, bd_rt, h2]
theorem atI_map' {α : Type} {f : α → D} {as : List α} {k : Nat} (h : k < as.length) (d : α) : atI (as.map f) (k : Int) = some (f (as.getD k d)) := by
  rw [atI_map, atI_nn h d]
  rfl
theorem mkE {C CB : Addr} {fa fb : DS → M DV} {δ : DS} {m c : Int} (h1 : fa δ = rt (.d (.int m))) (h2 : fb δ = rt (.d (.int c))) (h3 : 3 ≤ m) (h13 : m ≤ 13) (h4 : 1 ≤ c) (h5 : c ≤ 4) : eMkH C CB (aCons fa (aCons fb aNil)) δ = rt (hs C m c) := by
  unfold eMkH
  rw [cb_is (a2_is h1 h2)]
  show (if good m c = true then _ else _) = _
  rw [if_pos (by unfold good; simp; lia)]
  rfl
end LW
set_option Elab.async false
set_option linter.all false
set_option maxRecDepth 100000
set_option maxHeartbeats 1000000
set_option autoImplicit false
namespace LW
open PySem PySem.Spec L2 L3
section
variable {F G : DS → M Out} {B : DS → M Out} {f fe : DS → M DV} {fi : DS → M (List D)} {gc : DS → M Bool} {δ : DS} {r : M Out} {i k : Nat} {js : List Nat}
theorem forN {I : DS → Prop} {xs : List D} (h : fi δ = rt xs) (hI : I δ) (ht : ∀ x ∈ xs, ∀ δ, I δ → ∃ δ', B (δ.set i (some (.d x))) = rt (.nx δ') ∧ I δ') (kk : ∀ δ', I δ' → G δ' = r) : fSq (fFor fi (sName i) B) G δ = r := by
  obtain ⟨δ', e, h'⟩ := loop_all (i := i) (B := B) xs δ ht hI
  exact sqN (for_is h e) (kk δ' h')
end
end LW
namespace LW
open PySem PySem.Spec L2 L3
section
variable {F G : DS → M Out} {f fa fb fc fd fe : DS → M DV} {fr : DS → M (List DV)} {fi : DS → M (List D)} {gc : DS → M Bool} {δ : DS} {Q : DS → Prop} {r : M Out} {i : Nat} {x y z u : DV} {b : Bool}
theorem a4x (h1 : fa δ = rt x) (h2 : fb δ = rt y) (h3 : fc δ = rt z) (h4 : fd δ = rt u) : aCons fa (aCons fb (aCons fc (aCons fd aNil))) δ = rt [x, y, z, u] := by
  have := a3_is h2 h3 h4
  unfold aCons at this ⊢
  rw [h1, bd_rt, this]; rfl
theorem gP3_int (i j : Int) : gPlus3 (.d (.int i)) (.d (.int j)) = rt (.d (.int (i + j))) := rfl
theorem eqv_ii (a b : Int) : PyData.eqv (.int a) (.int b) = decide (a = b) := by
  unfold PyData.eqv
  by_cases h : a = b
  · subst h; simp
  · simp [h]
theorem run0 (n : Nat) : runI 0 n = (List.range n).map fun (k : Nat) => PyData.int (k : Int) := by
  unfold runI
  refine List.map_congr_left fun k _ => ?_
  rw [Int.zero_add]
end
end LW
set_option Elab.async false
set_option linter.all false
set_option maxRecDepth 100000
set_option maxHeartbeats 1000000
set_option autoImplicit false
namespace K12
open PySem PySem.Spec L2 L3 LW
open PyProof.Rows hiding St
noncomputable def top (i : Nat) : Stmt := PySem.Challenge.pw_meldhouse_k12_refusals_apart.main.body.getD i (.Pass ⟨0, 0, 0, 0⟩)
structure Tx (K : PySem.W.Frag) (mg : Str → Option Value) (C : Addr) : Prop where
  cl : Cls K C
  n_colours : NoAttr K C "colours"
  n_most : NoAttr K C "most"
  i_LEAST_NUMBERS : ∃ t, mg "LEAST_NUMBERS" = some (.int 3 t)
  i_MOST_NUMBERS : ∃ t, mg "MOST_NUMBERS" = some (.int 13 t)
  i_LEAST_COLOURS : ∃ t, mg "LEAST_COLOURS" = some (.int 1 t)
  i_MOST_COLOURS : ∃ t, mg "MOST_COLOURS" = some (.int 4 t)
  i_MOST_TILES : ∃ t, mg "MOST_TILES" = some (.int 12 t)
  i_MOST_ALIKE : ∃ t, mg "MOST_ALIKE" = some (.int 2 t)
  i_MOST_JOKERS : ∃ t, mg "MOST_JOKERS" = some (.int 2 t)
  i_LEAST_SIZE : ∃ t, mg "LEAST_SIZE" = some (.int 3 t)
  i_LETTERS : ∃ t, mg "LETTERS" = some (.str "abcd" t)
  i_JOKER : ∃ t, mg "JOKER" = some (.str "*" t)
  i_NOTHING : ∃ t, mg "NOTHING" = some (.str "-" t)
  b_ValueError : mg "ValueError" = none
  b_all : mg "all" = none
  b_dict : mg "dict" = none
  b_isinstance : mg "isinstance" = none
  b_len : mg "len" = none
  b_list : mg "list" = none
  b_range : mg "range" = none
  b_sum : mg "sum" = none
structure Rx (K : PySem.W.Frag) (mg : Str → Option Value) (E_BadHand E_BadHouse E_BadLaying E_BadNote E_MeldError : Addr) : Prop where
  x_BadHand : Xc K mg "BadHand" E_BadHand
  x_BadLaying : Xc K mg "BadLaying" E_BadLaying
  x_BadNote : Xc K mg "BadNote" E_BadNote
  x_BadHouse : Xc K mg "BadHouse" E_BadHouse
  x_MeldError : Xc K mg "MeldError" E_MeldError
  k_BadHouse : Xy K E_BadHouse
  q_BadHouse_BadHouse : PySem.W.kitOne K (.ref E_BadHouse) (.ref E_BadHouse) = some true
  q_BadHouse_BadHand : PySem.W.kitOne K (.ref E_BadHouse) (.ref E_BadHand) = some false
  q_BadHouse_BadLaying : PySem.W.kitOne K (.ref E_BadHouse) (.ref E_BadLaying) = some false
  q_BadHouse_BadNote : PySem.W.kitOne K (.ref E_BadHouse) (.ref E_BadNote) = some false
  q_BadHouse_MeldError : PySem.W.kitOne K (.ref E_BadHouse) (.ref E_MeldError) = some true
  q_BadHouse_ValueError : PySem.W.kitOne K (.ref E_BadHouse) (.type "ValueError") = some true
  k_BadHand : Xy K E_BadHand
  q_BadHand_BadHouse : PySem.W.kitOne K (.ref E_BadHand) (.ref E_BadHouse) = some false
  q_BadHand_BadHand : PySem.W.kitOne K (.ref E_BadHand) (.ref E_BadHand) = some true
  q_BadHand_BadLaying : PySem.W.kitOne K (.ref E_BadHand) (.ref E_BadLaying) = some false
  q_BadHand_BadNote : PySem.W.kitOne K (.ref E_BadHand) (.ref E_BadNote) = some false
  q_BadHand_MeldError : PySem.W.kitOne K (.ref E_BadHand) (.ref E_MeldError) = some true
  q_BadHand_ValueError : PySem.W.kitOne K (.ref E_BadHand) (.type "ValueError") = some true
  k_BadLaying : Xy K E_BadLaying
  q_BadLaying_BadHouse : PySem.W.kitOne K (.ref E_BadLaying) (.ref E_BadHouse) = some false
  q_BadLaying_BadHand : PySem.W.kitOne K (.ref E_BadLaying) (.ref E_BadHand) = some false
  q_BadLaying_BadLaying : PySem.W.kitOne K (.ref E_BadLaying) (.ref E_BadLaying) = some true
  q_BadLaying_BadNote : PySem.W.kitOne K (.ref E_BadLaying) (.ref E_BadNote) = some false
  q_BadLaying_MeldError : PySem.W.kitOne K (.ref E_BadLaying) (.ref E_MeldError) = some true
  q_BadLaying_ValueError : PySem.W.kitOne K (.ref E_BadLaying) (.type "ValueError") = some true
  k_BadNote : Xy K E_BadNote
  q_BadNote_BadHouse : PySem.W.kitOne K (.ref E_BadNote) (.ref E_BadHouse) = some false
  q_BadNote_BadHand : PySem.W.kitOne K (.ref E_BadNote) (.ref E_BadHand) = some false
  q_BadNote_BadLaying : PySem.W.kitOne K (.ref E_BadNote) (.ref E_BadLaying) = some false
  q_BadNote_BadNote : PySem.W.kitOne K (.ref E_BadNote) (.ref E_BadNote) = some true
  q_BadNote_MeldError : PySem.W.kitOne K (.ref E_BadNote) (.ref E_MeldError) = some true
  q_BadNote_ValueError : PySem.W.kitOne K (.ref E_BadNote) (.type "ValueError") = some true
  q_MeldError_BadHouse : PySem.W.kitOne K (.ref E_MeldError) (.ref E_BadHouse) = some false
  q_MeldError_BadHand : PySem.W.kitOne K (.ref E_MeldError) (.ref E_BadHand) = some false
  q_MeldError_BadLaying : PySem.W.kitOne K (.ref E_MeldError) (.ref E_BadLaying) = some false
  q_MeldError_BadNote : PySem.W.kitOne K (.ref E_MeldError) (.ref E_BadNote) = some false
  m_BadHouse : mg "BadHouse" = some (.ref E_BadHouse)
  m_BadHand : mg "BadHand" = some (.ref E_BadHand)
  m_BadLaying : mg "BadLaying" = some (.ref E_BadLaying)
  m_BadNote : mg "BadNote" = some (.ref E_BadNote)
  m_MeldError : mg "MeldError" = some (.ref E_MeldError)
noncomputable abbrev HsK (P : Program) (w : World) (K : PySem.W.Frag) (mg : Str → Option Value) (base : Heap) (C E_BadHouse : Addr) : Prop := Hs P w K mg base "House" C E_BadHouse good "most" "colours"
section
variable {P : Program} {w : World} {K : PySem.W.Frag} {mg : Str → Option Value} {base : Heap}
noncomputable abbrev s_is_tile : Stmt := top 16
theorem sc_is_tile : FnScope ["house", "tile"] ["house", "tile"] (defScope s_is_tile) := ⟨rfl, rfl, rfl, by decide +kernel, rfl, by decide +kernel, by decide +kernel⟩
theorem h_is_tile {C E_BadHand E_BadHouse E_BadLaying E_BadNote E_MeldError : Addr} (T : Tx K mg C) (R : Rx K mg E_BadHand E_BadHouse E_BadLaying E_BadNote E_MeldError) (D : Df K mg "is_tile" s_is_tile ["house", "tile"])   : Has P w K mg base 1 "is_tile" 2 (M_is_tile C) := D.has fun f fd Fu => fn0 (k := 0) Fu sc_is_tile rfl fun cdv A outer s H E hr => by
  have hu := hu64 hr
  have nd := sc_is_tile.nd
  refine ds_one ?_
  exact st_ret (px_and (px_chain (ov_leX hu) (ov_leX hu) px_int (px_ix (px_var 1 (pv 1)) px_int) (px_fld (px_var 0 (pv 0)) T.cl T.n_most)) (px_one (px_chain (ov_leX hu) (ov_ltX hu) px_int (px_ix (px_var 1 (pv 1)) px_int) (px_fld (px_var 0 (pv 0)) T.cl T.n_colours))))
noncomputable abbrev s_all_tiles : Stmt := top 17
theorem sc_all_tiles : FnScope ["house", "found", "number"] ["house"] (defScope s_all_tiles) := ⟨rfl, rfl, rfl, by decide +kernel, rfl, by decide +kernel, by decide +kernel⟩
noncomputable def F_all_tiles (C : Addr) : DS → M Out := (fSq (fSet 1 (eLst aNil)) (fSq (fFor (iR2 (aCons (eC (.int 1)) (aCons (e2 gPlus3 (eFld C "most" (eVar 0)) (eC (.int 1))) aNil))) (sName 2) (fExt 1 (eComp 1 [2] (iR1 (aCons (eFld C "colours" (eVar 0)) aNil)) (sName 0) bYes (eTup (aCons (eVar 1) (aCons (eVar 0) aNil)))))) (fRet (eVar 1))))
noncomputable def M_all_tiles (C : Addr) : List DV → M DV := mir ["house", "found", "number"] (F_all_tiles C)
theorem h_all_tiles {C E_BadHand E_BadHouse E_BadLaying E_BadNote E_MeldError : Addr} (T : Tx K mg C) (R : Rx K mg E_BadHand E_BadHouse E_BadLaying E_BadNote E_MeldError) (D : Df K mg "all_tiles" s_all_tiles ["house"])   : Has P w K mg base 1 "all_tiles" 1 (M_all_tiles C) := D.has fun f fd Fu => fn0 (k := 0) Fu sc_all_tiles rfl fun cdv A outer s H E hr => by
  have hu := hu64 hr
  have nd := sc_all_tiles.nd
  refine ds_cons ?_ ?_
  · refine st_set (i := 1) ?_ ?_
    · exact nd
    · exact (px_lst px_anil)
  · refine ds_cons ?_ ?_
    · refine st_for PassesOwn.never rfl ?_ (pg_name (i := 2) (by exact nd) rfl (by first | exact Or.inl rfl | exact Or.inr rfl)) (tg_name 2) ?_
      · exact (ix_r2 T.b_range (px_acons px_int (px_acons (px_op ov_plus3 (px_fld (px_var 0 (pv 0)) T.cl T.n_most) px_int) px_anil)))
      · refine ds_one ?_
        refine st_ext (pv 1) ?_
        exact (px_comp (N' := ["colour", "number"]) (CompSc.fit (sc := defScope s_all_tiles) (N := ["house", "found", "number"]) ⟨rfl, by decide +kernel, by decide +kernel, by decide +kernel, rfl, by decide +kernel⟩) (by decide) rfl (ix_r1 T.b_range (px_acons (px_fld (px_var 0 (pv 0)) T.cl T.n_colours) px_anil)) (tg_name 0) (sub_name (by decide)) (fun _ _ _ _ => (pg_name (i := 0) (show List.Nodup (["colour", "number"] : List Str) by decide +kernel) rfl (by first | exact Or.inl rfl | exact Or.inr rfl))) (fun _ _ _ _ => pf_yes) (fun _ _ _ _ => (px_tup (px_acons (px_var 1 (pv 1)) (px_acons (px_var 0 (pv 0)) px_anil)))))
    · refine ds_one ?_
      exact st_ret (px_var 1 (pv 1))
noncomputable abbrev s_is_in_order : Stmt := top 18
theorem sc_is_in_order : FnScope ["row"] ["row"] (defScope s_is_in_order) := ⟨rfl, rfl, rfl, by decide +kernel, rfl, by decide +kernel, by decide +kernel⟩
theorem h_is_in_order {C E_BadHand E_BadHouse E_BadLaying E_BadNote E_MeldError : Addr} (T : Tx K mg C) (R : Rx K mg E_BadHand E_BadHouse E_BadLaying E_BadNote E_MeldError) (D : Df K mg "is_in_order" s_is_in_order ["row"])   : Has P w K mg base 1 "is_in_order" 1 (M_is_in_order) := D.has fun f fd Fu => fn0 (k := 0) Fu sc_is_in_order rfl fun cdv A outer s H E hr => by
  have hu := hu64 hr
  have nd := sc_is_in_order.nd
  refine ds_one ?_
  exact st_ret (px_callB (cv_all rfl) rfl T.b_all bt_all (px_acons (px_comp (N' := ["k", "row"]) (CompSc.fit (sc := defScope s_is_in_order) (N := ["row"]) ⟨rfl, by decide +kernel, by decide +kernel, by decide +kernel, rfl, by decide +kernel⟩) (by decide) rfl (ix_r2 T.b_range (px_acons px_int (px_acons (px_callB cv_len rfl T.b_len bt_len (px_acons (px_var 0 (pv 0)) px_anil)) px_anil))) (tg_name 0) (sub_name (by decide)) (fun _ _ _ _ => (pg_name (i := 0) (show List.Nodup (["k", "row"] : List Str) by decide +kernel) rfl (by first | exact Or.inl rfl | exact Or.inr rfl))) (fun _ _ _ _ => pf_yes) (fun _ _ _ _ => (px_cmp (ov_leX hu) (px_ix (px_var 1 (pv 1)) (px_op ov_sub (px_var 0 (pv 0)) px_int)) (px_ix (px_var 1 (pv 1)) (px_var 0 (pv 0)))))) px_anil))
noncomputable abbrev s_is_hand : Stmt := top 19
theorem sc_is_hand : FnScope ["house", "hand", "jokers"] ["house", "hand", "jokers"] (defScope s_is_hand) := ⟨rfl, rfl, rfl, by decide +kernel, rfl, by decide +kernel, by decide +kernel⟩
theorem h_is_hand {C E_BadHand E_BadHouse E_BadLaying E_BadNote E_MeldError : Addr} (T : Tx K mg C) (R : Rx K mg E_BadHand E_BadHouse E_BadLaying E_BadNote E_MeldError) (D : Df K mg "is_hand" s_is_hand ["house", "hand", "jokers"])  (h_is_tile : Has P w K mg base 1 "is_tile" 2 (M_is_tile C)) (h_is_in_order : Has P w K mg base 1 "is_in_order" 1 (M_is_in_order)) : Has P w K mg base 2 "is_hand" 3 (M_is_hand C) := D.has fun f fd Fu => fn0 (k := 1) Fu sc_is_hand rfl fun cdv A outer s H E hr => by
  have hu := hu64 hr
  have nd := sc_is_hand.nd
  refine ds_cons ?_ ?_
  · refine st_if ?_ ?_ ?_
    · exact (PWb.pb (pb_or (pb_cmp ov_gt (px_callB cv_len rfl T.b_len bt_len (px_acons (px_var 1 (pv 1)) px_anil)) (px_gi T.i_MOST_TILES)) (pb_or1 (pb_not (pb_chain (ov_leX hu) (ov_leX hu) px_int (px_var 2 (pv 2)) (px_gi T.i_MOST_JOKERS))))))
    · refine ds_one ?_
      exact st_ret px_bl
    · exact ds_nil
  · refine ds_cons ?_ ?_
    · refine st_if ?_ ?_ ?_
      · exact (pb_not (pb_val (px_callB (cv_all rfl) rfl T.b_all bt_all (px_acons (px_comp (N' := ["tile", "house", "hand"]) (CompSc.fit (sc := defScope s_is_hand) (N := ["house", "hand", "jokers"]) ⟨rfl, by decide +kernel, by decide +kernel, by decide +kernel, rfl, by decide +kernel⟩) (by decide) rfl (ix_ls (px_var 1 (pv 1))) (tg_name 0) (sub_name (by decide)) (fun _ _ _ _ => (pg_name (i := 0) (show List.Nodup (["tile", "house", "hand"] : List Str) by decide +kernel) rfl (by first | exact Or.inl rfl | exact Or.inr rfl))) (fun _ _ _ _ => pf_yes) (fun _ _ _ _ => (px_and (px_has (h_is_tile.mono (by decide)) hr (px_acons (px_var 1 (pv 1)) (px_acons (px_var 0 (pv 0)) px_anil))) (px_one (px_cmp (ov_leX hu) (px_count hu (px_var 2 (pv 2)) (px_var 0 (pv 0))) (px_gi T.i_MOST_ALIKE)))))) px_anil))))
      · refine ds_one ?_
        exact st_ret px_bl
      · exact ds_nil
    · refine ds_one ?_
      exact st_ret (px_has (h_is_in_order.mono (by decide)) hr (px_acons (px_var 1 (pv 1)) px_anil))
noncomputable abbrev s_check_hand : Stmt := top 20
theorem sc_check_hand : FnScope ["house", "hand", "jokers"] ["house", "hand", "jokers"] (defScope s_check_hand) := ⟨rfl, rfl, rfl, by decide +kernel, rfl, by decide +kernel, by decide +kernel⟩
noncomputable def F_check_hand (C : Addr) (E_BadHand : Addr) : DS → M Out := (fIf (bNot (fun δ => bd ((eCb (gCall 3 (M_is_hand C)) (aCons (eVar 0) (aCons (eVar 1) (aCons (eVar 2) aNil)))) δ) tru)) (fun _ => some (.error (.ref E_BadHand))) fNil)
noncomputable def M_check_hand (C : Addr) (E_BadHand : Addr) : List DV → M DV := mir ["house", "hand", "jokers"] (F_check_hand C E_BadHand)
theorem h_check_hand {C E_BadHand E_BadHouse E_BadLaying E_BadNote E_MeldError : Addr} (T : Tx K mg C) (R : Rx K mg E_BadHand E_BadHouse E_BadLaying E_BadNote E_MeldError) (D : Df K mg "check_hand" s_check_hand ["house", "hand", "jokers"])  (h_is_hand : Has P w K mg base 2 "is_hand" 3 (M_is_hand C)) : HasX P w K mg base 3 "check_hand" 3 (M_check_hand C E_BadHand) := D.hasX fun f fd Fu => fnX (k := 2) Fu sc_check_hand rfl fun cdv A outer s H E hr => by
  have hu := hu64 hr
  have nd := sc_check_hand.nd
  refine ds_one ?_
  refine st_if ?_ ?_ ?_
  · exact (pb_not (pb_val (px_has (h_is_hand.mono (by decide)) hr (by refine px_acons ?_ ?_; (exact (px_var 0 (pv 0))); (exact (px_acons (px_var 1 (pv 1)) (px_acons (px_var 2 (pv 2)) px_anil)))))))
  · refine ds_one ?_
    exact st_raise (makes_fn hr) R.x_BadHand
  · exact ds_nil
noncomputable abbrev s_is_run : Stmt := top 23
theorem sc_is_run : FnScope ["house", "colour", "first", "size", "last"] ["house", "colour", "first", "size"] (defScope s_is_run) := ⟨rfl, rfl, rfl, by decide +kernel, rfl, by decide +kernel, by decide +kernel⟩
theorem h_is_run {C E_BadHand E_BadHouse E_BadLaying E_BadNote E_MeldError : Addr} (T : Tx K mg C) (R : Rx K mg E_BadHand E_BadHouse E_BadLaying E_BadNote E_MeldError) (D : Df K mg "is_run" s_is_run ["house", "colour", "first", "size"])  (h_is_tile : Has P w K mg base 1 "is_tile" 2 (M_is_tile C)) : Has P w K mg base 2 "is_run" 4 (M_is_run C) := D.has fun f fd Fu => fn0 (k := 1) Fu sc_is_run rfl fun cdv A outer s H E hr => by
  have hu := hu64 hr
  have nd := sc_is_run.nd
  refine ds_cons ?_ ?_
  · refine st_set (i := 4) ?_ ?_
    · exact nd
    · exact (px_op ov_sub (px_op ov_plus3 (px_var 2 (pv 2)) (px_var 3 (pv 3))) px_int)
  · refine ds_one ?_
    exact st_ret (px_and (px_cmp ov_ge (px_var 3 (pv 3)) (px_gi T.i_LEAST_SIZE)) (px_and (px_has (h_is_tile.mono (by decide)) hr (px_acons (px_var 0 (pv 0)) (px_acons (px_tup (px_acons (px_var 2 (pv 2)) (px_acons (px_var 1 (pv 1)) px_anil))) px_anil))) (px_one (px_has (h_is_tile.mono (by decide)) hr (px_acons (px_var 0 (pv 0)) (px_acons (px_tup (px_acons (px_var 4 (pv 4)) (px_acons (px_var 1 (pv 1)) px_anil))) px_anil))))))
noncomputable abbrev s_is_group : Stmt := top 24
theorem sc_is_group : FnScope ["house", "number", "colours"] ["house", "number", "colours"] (defScope s_is_group) := ⟨rfl, rfl, rfl, by decide +kernel, rfl, by decide +kernel, by decide +kernel⟩
theorem h_is_group {C E_BadHand E_BadHouse E_BadLaying E_BadNote E_MeldError : Addr} (T : Tx K mg C) (R : Rx K mg E_BadHand E_BadHouse E_BadLaying E_BadNote E_MeldError) (D : Df K mg "is_group" s_is_group ["house", "number", "colours"])  (h_is_tile : Has P w K mg base 1 "is_tile" 2 (M_is_tile C)) : Has P w K mg base 2 "is_group" 3 (M_is_group C) := D.has fun f fd Fu => fn0 (k := 1) Fu sc_is_group rfl fun cdv A outer s H E hr => by
  have hu := hu64 hr
  have nd := sc_is_group.nd
  refine ds_cons ?_ ?_
  · refine st_if ?_ ?_ ?_
    · exact (pb_cmp (ov_ltX hu) (px_callB cv_len rfl T.b_len bt_len (px_acons (px_var 2 (pv 2)) px_anil)) (px_gi T.i_LEAST_SIZE))
    · refine ds_one ?_
      exact st_ret px_bl
    · exact ds_nil
  · refine ds_cons ?_ ?_
    · refine st_if ?_ ?_ ?_
      · exact (pb_not (pb_val (px_callB (cv_all rfl) rfl T.b_all bt_all (px_acons (px_comp (N' := ["colour", "house", "number"]) (CompSc.fit (sc := defScope s_is_group) (N := ["house", "number", "colours"]) ⟨rfl, by decide +kernel, by decide +kernel, by decide +kernel, rfl, by decide +kernel⟩) (by decide) rfl (ix_tp (px_var 2 (pv 2))) (tg_name 0) (sub_name (by decide)) (fun _ _ _ _ => (pg_name (i := 0) (show List.Nodup (["colour", "house", "number"] : List Str) by decide +kernel) rfl (by first | exact Or.inl rfl | exact Or.inr rfl))) (fun _ _ _ _ => pf_yes) (fun _ _ _ _ => (px_has (h_is_tile.mono (by decide)) hr (px_acons (px_var 1 (pv 1)) (px_acons (px_tup (px_acons (px_var 2 (pv 2)) (px_acons (px_var 0 (pv 0)) px_anil))) px_anil))))) px_anil))))
      · refine ds_one ?_
        exact st_ret px_bl
      · exact ds_nil
    · refine ds_one ?_
      exact st_ret (px_callB (cv_all rfl) rfl T.b_all bt_all (px_acons (px_comp (N' := ["k", "colours"]) (CompSc.fit (sc := defScope s_is_group) (N := ["house", "number", "colours"]) ⟨rfl, by decide +kernel, by decide +kernel, by decide +kernel, rfl, by decide +kernel⟩) (by decide) rfl (ix_r2 T.b_range (px_acons px_int (px_acons (px_callB cv_len rfl T.b_len bt_len (px_acons (px_var 2 (pv 2)) px_anil)) px_anil))) (tg_name 0) (sub_name (by decide)) (fun _ _ _ _ => (pg_name (i := 0) (show List.Nodup (["k", "colours"] : List Str) by decide +kernel) rfl (by first | exact Or.inl rfl | exact Or.inr rfl))) (fun _ _ _ _ => pf_yes) (fun _ _ _ _ => (px_cmp (ov_ltX hu) (px_ix (px_var 1 (pv 1)) (px_op ov_sub (px_var 0 (pv 0)) px_int)) (px_ix (px_var 1 (pv 1)) (px_var 0 (pv 0)))))) px_anil))
noncomputable abbrev s_is_meld : Stmt := top 25
theorem sc_is_meld : FnScope ["house", "meld"] ["house", "meld"] (defScope s_is_meld) := ⟨rfl, rfl, rfl, by decide +kernel, rfl, by decide +kernel, by decide +kernel⟩
theorem h_is_meld {C E_BadHand E_BadHouse E_BadLaying E_BadNote E_MeldError : Addr} (T : Tx K mg C) (R : Rx K mg E_BadHand E_BadHouse E_BadLaying E_BadNote E_MeldError) (D : Df K mg "is_meld" s_is_meld ["house", "meld"])  (h_is_run : Has P w K mg base 2 "is_run" 4 (M_is_run C)) (h_is_group : Has P w K mg base 2 "is_group" 3 (M_is_group C)) : Has P w K mg base 3 "is_meld" 2 (M_is_meld C) := D.has fun f fd Fu => fn0 (k := 2) Fu sc_is_meld rfl fun cdv A outer s H E hr => by
  have hu := hu64 hr
  have nd := sc_is_meld.nd
  refine ds_cons ?_ ?_
  · refine st_if ?_ ?_ ?_
    · exact (pb_cmp (ov_eq hu) (px_ix (px_var 1 (pv 1)) px_int) (px_str (by decide +kernel)))
    · refine ds_one ?_
      exact st_ret (px_has (h_is_run.mono (by decide)) hr (by refine px_acons ?_ ?_; (exact (px_var 0 (pv 0))); (exact (by refine px_acons ?_ ?_; (exact (px_ix (px_var 1 (pv 1)) px_int)); (exact (by refine px_acons ?_ ?_; (exact (px_ix (px_var 1 (pv 1)) px_int)); (exact (by refine px_acons ?_ ?_; (exact (px_ix (px_var 1 (pv 1)) px_int)); (exact px_anil)))))))))
    · exact ds_nil
  · refine ds_one ?_
    exact st_ret (px_and (px_cmp (ov_eq hu) (px_ix (px_var 1 (pv 1)) px_int) (px_str (by decide +kernel))) (px_one (px_has (h_is_group.mono (by decide)) hr (by refine px_acons ?_ ?_; (exact (px_var 0 (pv 0))); (exact (px_acons (px_ix (px_var 1 (pv 1)) px_int) (px_acons (px_ix (px_var 1 (pv 1)) px_int) px_anil)))))))
noncomputable abbrev s_tiles_of : Stmt := top 26
theorem sc_tiles_of : FnScope ["house", "meld"] ["house", "meld"] (defScope s_tiles_of) := ⟨rfl, rfl, rfl, by decide +kernel, rfl, by decide +kernel, by decide +kernel⟩
theorem h_tiles_of {C E_BadHand E_BadHouse E_BadLaying E_BadNote E_MeldError : Addr} (T : Tx K mg C) (R : Rx K mg E_BadHand E_BadHouse E_BadLaying E_BadNote E_MeldError) (D : Df K mg "tiles_of" s_tiles_of ["house", "meld"])  (h_is_meld : Has P w K mg base 3 "is_meld" 2 (M_is_meld C)) : HasX P w K mg base 4 "tiles_of" 2 (M_tiles_of C E_BadLaying) := D.hasX fun f fd Fu => fnX (k := 3) Fu sc_tiles_of rfl fun cdv A outer s H E hr => by
  have hu := hu64 hr
  have nd := sc_tiles_of.nd
  refine ds_cons ?_ ?_
  · refine st_if ?_ ?_ ?_
    · exact (pb_not (pb_val (px_has (h_is_meld.mono (by decide)) hr (px_acons (px_var 0 (pv 0)) (px_acons (px_var 1 (pv 1)) px_anil)))))
    · refine ds_one ?_
      exact st_raise (makes_fn hr) R.x_BadLaying
    · exact ds_nil
  · refine ds_cons ?_ ?_
    · refine st_if ?_ ?_ ?_
      · exact (pb_cmp (ov_eq hu) (px_ix (px_var 1 (pv 1)) px_int) (px_str (by decide +kernel)))
      · refine ds_one ?_
        exact st_ret (px_comp (N' := ["k", "meld"]) (CompSc.fit (sc := defScope s_tiles_of) (N := ["house", "meld"]) ⟨rfl, by decide +kernel, by decide +kernel, by decide +kernel, rfl, by decide +kernel⟩) (by decide) rfl (ix_r1 T.b_range (px_acons (px_ix (px_var 1 (pv 1)) px_int) px_anil)) (tg_name 0) (sub_name (by decide)) (fun _ _ _ _ => (pg_name (i := 0) (show List.Nodup (["k", "meld"] : List Str) by decide +kernel) rfl (by first | exact Or.inl rfl | exact Or.inr rfl))) (fun _ _ _ _ => pf_yes) (fun _ _ _ _ => (px_tup (px_acons (px_op ov_plus3 (px_ix (px_var 1 (pv 1)) px_int) (px_var 0 (pv 0))) (px_acons (px_ix (px_var 1 (pv 1)) px_int) px_anil)))))
      · exact ds_nil
    · refine ds_one ?_
      exact st_ret (px_comp (N' := ["colour", "meld"]) (CompSc.fit (sc := defScope s_tiles_of) (N := ["house", "meld"]) ⟨rfl, by decide +kernel, by decide +kernel, by decide +kernel, rfl, by decide +kernel⟩) (by decide) rfl (ix_tp (px_ix (px_var 1 (pv 1)) px_int)) (tg_name 0) (sub_name (by decide)) (fun _ _ _ _ => (pg_name (i := 0) (show List.Nodup (["colour", "meld"] : List Str) by decide +kernel) rfl (by first | exact Or.inl rfl | exact Or.inr rfl))) (fun _ _ _ _ => pf_yes) (fun _ _ _ _ => (px_tup (px_acons (px_ix (px_var 1 (pv 1)) px_int) (px_acons (px_var 0 (pv 0)) px_anil)))))
noncomputable abbrev s_total : Stmt := top 32
theorem sc_total : FnScope ["tiles"] ["tiles"] (defScope s_total) := ⟨rfl, rfl, rfl, by decide +kernel, rfl, by decide +kernel, by decide +kernel⟩
noncomputable def F_total : DS → M Out := (fRet (eCb gSum (aCons (eComp 1 [] (iLs (eVar 0)) (sName 0) bYes (e2 gIx (eVar 0) (eC (.int 0)))) aNil)))
noncomputable def M_total : List DV → M DV := mir ["tiles"] (F_total)
theorem h_total {C E_BadHand E_BadHouse E_BadLaying E_BadNote E_MeldError : Addr} (T : Tx K mg C) (R : Rx K mg E_BadHand E_BadHouse E_BadLaying E_BadNote E_MeldError) (D : Df K mg "total" s_total ["tiles"])   : Has P w K mg base 1 "total" 1 (M_total) := D.has fun f fd Fu => fn0 (k := 0) Fu sc_total rfl fun cdv A outer s H E hr => by
  have hu := hu64 hr
  have nd := sc_total.nd
  refine ds_one ?_
  exact st_ret (px_callB (cv_sum rfl) rfl T.b_sum bt_sum (px_acons (px_comp (N' := ["tile"]) (CompSc.fit (sc := defScope s_total) (N := ["tiles"]) ⟨rfl, by decide +kernel, by decide +kernel, by decide +kernel, rfl, by decide +kernel⟩) (by decide) rfl (ix_ls (px_var 0 (pv 0))) (tg_name 0) (sub_name (by decide)) (fun _ _ _ _ => (pg_name (i := 0) (show List.Nodup (["tile"] : List Str) by decide +kernel) rfl (by first | exact Or.inl rfl | exact Or.inr rfl))) (fun _ _ _ _ => pf_yes) (fun _ _ _ _ => (px_ix (px_var 0 (pv 0)) px_int))) px_anil))
noncomputable abbrev s_lay_out : Stmt := top 33
theorem sc_lay_out : FnScope ["tiles", "jokers", "wanted", "rest", "tile", "from_hand"] ["tiles", "jokers", "wanted"] (defScope s_lay_out) := ⟨rfl, rfl, rfl, by decide +kernel, rfl, by decide +kernel, by decide +kernel⟩
noncomputable def F_lay_out : DS → M Out := (fSq (fSet 3 (eCb gList (aCons (eVar 0) aNil))) (fSq (fFor (iLs (eVar 2)) (sName 4) (fIf (fun δ => bd (e2 (gIn false) (eVar 4) (eVar 3) δ) tru) (fRem 3 (eVar 4)) fNil)) (fSq (fSet 5 (e2 gSub (eCb gLen (aCons (eVar 0) aNil)) (eCb gLen (aCons (eVar 3) aNil)))) (fun δ => (fRet (eTup (aCons (eVar 3) (aCons (e2 gSub (eVar 1) (e2 gSub (eCb gLen (aCons (eVar 2) aNil)) (eVar 5))) aNil)))) (frz 3 δ)))))
noncomputable def M_lay_out : List DV → M DV := mir ["tiles", "jokers", "wanted", "rest", "tile", "from_hand"] (F_lay_out)
theorem h_lay_out {C E_BadHand E_BadHouse E_BadLaying E_BadNote E_MeldError : Addr} (T : Tx K mg C) (R : Rx K mg E_BadHand E_BadHouse E_BadLaying E_BadNote E_MeldError) (D : Df K mg "lay_out" s_lay_out ["tiles", "jokers", "wanted"])   : Has P w K mg base 1 "lay_out" 3 (M_lay_out) := D.has fun f fd Fu => fn0 (k := 0) Fu sc_lay_out rfl fun cdv A outer s H E hr => by
  have hu := hu64 hr
  have nd := sc_lay_out.nd
  refine ds_cons ?_ ?_
  · refine st_set (i := 3) ?_ ?_
    · exact nd
    · exact (px_callTy cv_list rfl T.b_list bt_list (px_acons (px_var 0 (pv 0)) px_anil))
  · refine ds_cons ?_ ?_
    · refine st_for PassesOwn.never rfl ?_ (pg_name (i := 4) (by exact nd) rfl (by first | exact Or.inl rfl | exact Or.inr rfl)) (tg_name 4) ?_
      · exact (ix_ls (px_var 2 (pv 2)))
      · refine ds_one ?_
        refine st_if ?_ ?_ ?_
        · exact (pb_cmp (ov_in hu) (px_var 4 (pv 4)) (px_var 3 (pv 3)))
        · refine ds_one ?_
          refine st_rem hu (pv 3) ?_
          exact (px_var 4 (pv 4))
        · exact ds_nil
    · refine ds_cons ?_ ?_
      · refine st_set (i := 5) ?_ ?_
        · exact nd
        · exact (px_op ov_sub (px_callB cv_len rfl T.b_len bt_len (px_acons (px_var 0 (pv 0)) px_anil)) (px_callB cv_len rfl T.b_len bt_len (px_acons (px_var 3 (pv 3)) px_anil)))
      · refine ds_frz 3 ?_
        refine ds_one ?_
        exact st_ret (px_tup (px_acons (px_var 3 (pv 3)) (px_acons (px_op ov_sub (px_var 1 (pv 1)) (px_op ov_sub (px_callB cv_len rfl T.b_len bt_len (px_acons (px_var 2 (pv 2)) px_anil)) (px_var 5 (pv 5)))) px_anil)))
noncomputable abbrev s_tiles_of_laying : Stmt := top 34
theorem sc_tiles_of_laying : FnScope ["house", "laying", "wanted", "meld"] ["house", "laying"] (defScope s_tiles_of_laying) := ⟨rfl, rfl, rfl, by decide +kernel, rfl, by decide +kernel, by decide +kernel⟩
noncomputable def F_tiles_of_laying (C : Addr) (E_BadLaying : Addr) : DS → M Out := (fSq (fSet 2 (eLst aNil)) (fSq (fFor (iLs (eVar 1)) (sName 3) (fExt 2 (eCb (gCallX 2 (M_tiles_of C E_BadLaying)) (aCons (eVar 0) (aCons (eVar 3) aNil))))) (fSq (fIf (bNot (fun δ => bd ((eCb (gCall 1 (M_is_in_order)) (aCons (eVar 1) aNil)) δ) tru)) (fun _ => some (.error (.ref E_BadLaying))) fNil) (fRet (eVar 2)))))
noncomputable def M_tiles_of_laying (C : Addr) (E_BadLaying : Addr) : List DV → M DV := mir ["house", "laying", "wanted", "meld"] (F_tiles_of_laying C E_BadLaying)
theorem h_tiles_of_laying {C E_BadHand E_BadHouse E_BadLaying E_BadNote E_MeldError : Addr} (T : Tx K mg C) (R : Rx K mg E_BadHand E_BadHouse E_BadLaying E_BadNote E_MeldError) (D : Df K mg "tiles_of_laying" s_tiles_of_laying ["house", "laying"])  (h_tiles_of : HasX P w K mg base 4 "tiles_of" 2 (M_tiles_of C E_BadLaying)) (h_is_in_order : Has P w K mg base 1 "is_in_order" 1 (M_is_in_order)) : HasX P w K mg base 5 "tiles_of_laying" 2 (M_tiles_of_laying C E_BadLaying) := D.hasX fun f fd Fu => fnX (k := 4) Fu sc_tiles_of_laying rfl fun cdv A outer s H E hr => by
  have hu := hu64 hr
  have nd := sc_tiles_of_laying.nd
  refine ds_cons ?_ ?_
  · refine st_set (i := 2) ?_ ?_
    · exact nd
    · exact (px_lst px_anil)
  · refine ds_cons ?_ ?_
    · refine st_for PassesOwn.leaving rfl ?_ (pg_name (i := 3) (by exact nd) rfl (by first | exact Or.inl rfl | exact Or.inr rfl)) (tg_name 3) ?_
      · exact (ix_ls (px_var 1 (pv 1)))
      · refine ds_one ?_
        refine st_ext (pv 2) ?_
        exact (by refine px_hasX (h_tiles_of.mono (by decide)) hr pass_on ?_; exact (px_acons (px_var 0 (pv 0)) (px_acons (px_var 3 (pv 3)) px_anil)))
    · refine ds_cons ?_ ?_
      · refine st_if ?_ ?_ ?_
        · exact (pb_not (pb_val (px_has (h_is_in_order.mono (by decide)) hr (px_acons (px_var 1 (pv 1)) px_anil))))
        · refine ds_one ?_
          exact st_raise (makes_fn hr) R.x_BadLaying
        · exact ds_nil
      · refine ds_one ?_
        exact st_ret (px_var 2 (pv 2))
noncomputable abbrev s_left : Stmt := top 35
theorem sc_left : FnScope ["house", "hand", "jokers", "laying", "after"] ["house", "hand", "jokers", "laying"] (defScope s_left) := ⟨rfl, rfl, rfl, by decide +kernel, rfl, by decide +kernel, by decide +kernel⟩
noncomputable def F_left (C : Addr) (E_BadHand : Addr) (E_BadLaying : Addr) : DS → M Out := (fSq (fDrop (eCb (gCallX 3 (M_check_hand C E_BadHand)) (aCons (eVar 0) (aCons (eVar 1) (aCons (eVar 2) aNil))))) (fSq (fSet 4 (eCb (gCall 3 (M_lay_out)) (aCons (eVar 1) (aCons (eVar 2) (aCons (eCb (gCallX 2 (M_tiles_of_laying C E_BadLaying)) (aCons (eVar 0) (aCons (eVar 3) aNil))) aNil))))) (fSq (fIf (fun δ => bd (e2 gLtD (e2 gIx (eVar 4) (eC (.int 1))) (eC (.int 0)) δ) tru) (fun _ => some (.error (.ref E_BadLaying))) fNil) (fRet (eVar 4)))))
noncomputable def M_left (C : Addr) (E_BadHand : Addr) (E_BadLaying : Addr) : List DV → M DV := mir ["house", "hand", "jokers", "laying", "after"] (F_left C E_BadHand E_BadLaying)
theorem h_left {C E_BadHand E_BadHouse E_BadLaying E_BadNote E_MeldError : Addr} (T : Tx K mg C) (R : Rx K mg E_BadHand E_BadHouse E_BadLaying E_BadNote E_MeldError) (D : Df K mg "left" s_left ["house", "hand", "jokers", "laying"])  (h_check_hand : HasX P w K mg base 3 "check_hand" 3 (M_check_hand C E_BadHand)) (h_tiles_of_laying : HasX P w K mg base 5 "tiles_of_laying" 2 (M_tiles_of_laying C E_BadLaying)) (h_lay_out : Has P w K mg base 1 "lay_out" 3 (M_lay_out)) : HasX P w K mg base 6 "left" 4 (M_left C E_BadHand E_BadLaying) := D.hasX fun f fd Fu => fnX (k := 5) Fu sc_left rfl fun cdv A outer s H E hr => by
  have hu := hu64 hr
  have nd := sc_left.nd
  refine ds_cons ?_ ?_
  · refine st_expr ?_
    exact (by refine px_hasX (h_check_hand.mono (by decide)) hr pass_on ?_; exact (by refine px_acons ?_ ?_; (exact (px_var 0 (pv 0))); (exact (px_acons (px_var 1 (pv 1)) (px_acons (px_var 2 (pv 2)) px_anil)))))
  · refine ds_cons ?_ ?_
    · refine st_set (i := 4) ?_ ?_
      · exact nd
      · exact (px_has (h_lay_out.mono (by decide)) hr (by refine px_acons ?_ ?_; (exact (px_var 1 (pv 1))); (exact (px_acons (px_var 2 (pv 2)) (px_acons (by refine px_hasX (h_tiles_of_laying.mono (by decide)) hr pass_on ?_; exact (px_acons (px_var 0 (pv 0)) (px_acons (px_var 3 (pv 3)) px_anil))) px_anil)))))
    · refine ds_cons ?_ ?_
      · refine st_if ?_ ?_ ?_
        · exact (pb_cmp (ov_ltX hu) (px_ix (px_var 4 (pv 4)) px_int) px_int)
        · refine ds_one ?_
          exact st_raise (makes_fn hr) R.x_BadLaying
        · exact ds_nil
      · refine ds_one ?_
        exact st_ret (px_var 4 (pv 4))
noncomputable abbrev s_worth : Stmt := top 36
theorem sc_worth : FnScope ["house", "hand", "jokers", "laying"] ["house", "hand", "jokers", "laying"] (defScope s_worth) := ⟨rfl, rfl, rfl, by decide +kernel, rfl, by decide +kernel, by decide +kernel⟩
noncomputable def F_worth (C : Addr) (E_BadHand : Addr) (E_BadLaying : Addr) : DS → M Out := (fRet (e2 gSub (eCb (gCall 1 (M_total)) (aCons (eVar 1) aNil)) (eCb (gCall 1 (M_total)) (aCons (e2 gIx (eCb (gCallX 4 (M_left C E_BadHand E_BadLaying)) (aCons (eVar 0) (aCons (eVar 1) (aCons (eVar 2) (aCons (eVar 3) aNil))))) (eC (.int 0))) aNil))))
noncomputable def M_worth (C : Addr) (E_BadHand : Addr) (E_BadLaying : Addr) : List DV → M DV := mir ["house", "hand", "jokers", "laying"] (F_worth C E_BadHand E_BadLaying)
theorem h_worth {C E_BadHand E_BadHouse E_BadLaying E_BadNote E_MeldError : Addr} (T : Tx K mg C) (R : Rx K mg E_BadHand E_BadHouse E_BadLaying E_BadNote E_MeldError) (D : Df K mg "worth" s_worth ["house", "hand", "jokers", "laying"])  (h_total : Has P w K mg base 1 "total" 1 (M_total)) (h_left : HasX P w K mg base 6 "left" 4 (M_left C E_BadHand E_BadLaying)) : HasX P w K mg base 7 "worth" 4 (M_worth C E_BadHand E_BadLaying) := D.hasX fun f fd Fu => fnX (k := 6) Fu sc_worth rfl fun cdv A outer s H E hr => by
  have hu := hu64 hr
  have nd := sc_worth.nd
  refine ds_one ?_
  exact st_ret (px_op ov_sub (px_has (h_total.mono (by decide)) hr (px_acons (px_var 1 (pv 1)) px_anil)) (px_has (h_total.mono (by decide)) hr (px_acons (px_ix (by refine px_hasX (h_left.mono (by decide)) hr pass_on ?_; exact (by refine px_acons ?_ ?_; (exact (px_var 0 (pv 0))); (exact (by refine px_acons ?_ ?_; (exact (px_var 1 (pv 1))); (exact (by refine px_acons ?_ ?_; (exact (px_var 2 (pv 2))); (exact (by refine px_acons ?_ ?_; (exact (px_var 3 (pv 3))); (exact px_anil))))))))) px_int) px_anil)))
noncomputable abbrev s_tile_word : Stmt := top 41
theorem sc_tile_word : FnScope ["tile", "number", "letter"] ["tile"] (defScope s_tile_word) := ⟨rfl, rfl, rfl, by decide +kernel, rfl, by decide +kernel, by decide +kernel⟩
noncomputable def F_tile_word : DS → M Out := (fSq (fSet 1 (e2 gIx (eVar 0) (eC (.int 0)))) (fSq (fSet 2 (e2 gIxC (eC (.str "abcd")) (e2 gIx (eVar 0) (eC (.int 1))))) (fRet (eF2 (eVar 1) (eVar 2)))))
noncomputable def M_tile_word : List DV → M DV := mir ["tile", "number", "letter"] (F_tile_word)
theorem h_tile_word {C E_BadHand E_BadHouse E_BadLaying E_BadNote E_MeldError : Addr} (T : Tx K mg C) (R : Rx K mg E_BadHand E_BadHouse E_BadLaying E_BadNote E_MeldError) (D : Df K mg "tile_word" s_tile_word ["tile"])   : Has P w K mg base 1 "tile_word" 1 (M_tile_word) := D.has fun f fd Fu => fn0 (k := 0) Fu sc_tile_word rfl fun cdv A outer s H E hr => by
  have hu := hu64 hr
  have nd := sc_tile_word.nd
  refine ds_cons ?_ ?_
  · refine st_set (i := 1) ?_ ?_
    · exact nd
    · exact (px_ix (px_var 0 (pv 0)) px_int)
  · refine ds_cons ?_ ?_
    · refine st_set (i := 2) ?_ ?_
      · exact nd
      · exact (px_ixC (px_gs T.i_LETTERS (by decide +kernel)) (px_ix (px_var 0 (pv 0)) px_int))
    · refine ds_one ?_
      exact st_ret (px_f2 (px_var 1 (pv 1)) (px_var 2 (pv 2)))
noncomputable abbrev s_shown : Stmt := top 42
theorem sc_shown : FnScope ["house", "hand", "jokers", "words"] ["house", "hand", "jokers"] (defScope s_shown) := ⟨rfl, rfl, rfl, by decide +kernel, rfl, by decide +kernel, by decide +kernel⟩
noncomputable def F_shown (C : Addr) (E_BadHand : Addr) : DS → M Out := (fSq (fDrop (eCb (gCallX 3 (M_check_hand C E_BadHand)) (aCons (eVar 0) (aCons (eVar 1) (aCons (eVar 2) aNil))))) (fSq (fSet 3 (e2 gPlus3 (eComp 1 [] (iLs (eVar 1)) (sName 0) bYes (eCb (gCall 1 (M_tile_word)) (aCons (eVar 0) aNil))) (e2 gTimes (eLst (aCons (eC (.str "*")) aNil)) (eVar 2)))) (fRet (eIf (fun δ => bd ((eVar 3) δ) truL) eNo (eC (.str "-"))))))
noncomputable def M_shown (C : Addr) (E_BadHand : Addr) : List DV → M DV := mir ["house", "hand", "jokers", "words"] (F_shown C E_BadHand)
theorem h_shown {C E_BadHand E_BadHouse E_BadLaying E_BadNote E_MeldError : Addr} (T : Tx K mg C) (R : Rx K mg E_BadHand E_BadHouse E_BadLaying E_BadNote E_MeldError) (D : Df K mg "shown" s_shown ["house", "hand", "jokers"])  (h_check_hand : HasX P w K mg base 3 "check_hand" 3 (M_check_hand C E_BadHand)) (h_tile_word : Has P w K mg base 1 "tile_word" 1 (M_tile_word)) : HasX P w K mg base 4 "shown" 3 (M_shown C E_BadHand) := D.hasX fun f fd Fu => fnX (k := 3) Fu sc_shown rfl fun cdv A outer s H E hr => by
  have hu := hu64 hr
  have nd := sc_shown.nd
  refine ds_cons ?_ ?_
  · refine st_expr ?_
    exact (by refine px_hasX (h_check_hand.mono (by decide)) hr pass_on ?_; exact (by refine px_acons ?_ ?_; (exact (px_var 0 (pv 0))); (exact (px_acons (px_var 1 (pv 1)) (px_acons (px_var 2 (pv 2)) px_anil)))))
  · refine ds_cons ?_ ?_
    · refine st_set (i := 3) ?_ ?_
      · exact nd
      · exact (px_op ov_plus3 (px_comp (N' := ["tile"]) (CompSc.fit (sc := defScope s_shown) (N := ["house", "hand", "jokers", "words"]) ⟨rfl, by decide +kernel, by decide +kernel, by decide +kernel, rfl, by decide +kernel⟩) (by decide) rfl (ix_ls (px_var 1 (pv 1))) (tg_name 0) (sub_name (by decide)) (fun _ _ _ _ => (pg_name (i := 0) (show List.Nodup (["tile"] : List Str) by decide +kernel) rfl (by first | exact Or.inl rfl | exact Or.inr rfl))) (fun _ _ _ _ => pf_yes) (fun _ _ _ _ => (px_has (h_tile_word.mono (by decide)) hr (px_acons (px_var 0 (pv 0)) px_anil)))) (px_op ov_times (px_lst (px_acons (px_gs T.i_JOKER (by decide +kernel)) px_anil)) (px_var 2 (pv 2))))
    · refine ds_one ?_
      exact st_ret (px_if (pb_lst (px_var 3 (pv 3))) px_no (px_gs T.i_NOTHING (by decide +kernel)))
noncomputable abbrev s_read : Stmt := top 43
theorem sc_read : FnScope ["house", "text", "tiles", "words", "hand", "jokers"] ["house", "text"] (defScope s_read) := ⟨rfl, rfl, rfl, by decide +kernel, rfl, by decide +kernel, by decide +kernel⟩
noncomputable def F_read (C : Addr) (E_BadHand : Addr) (E_BadNote : Addr) : DS → M Out := (fSq (fSet 2 (eCb gDict (aCons (eComp 1 [] (iLs (eCb (gCall 1 (M_all_tiles C)) (aCons (eVar 0) aNil))) (sName 0) bYes (eTup (aCons (eCb (gCall 1 (M_tile_word)) (aCons (eVar 0) aNil)) (aCons (eVar 0) aNil)))) aNil))) (fSq (fSet 3 (eSplit (eVar 1) (eC (.str " ")))) (fun δ => (fSq (fSet 4 (eComp 1 [2] (iLs (eVar 3)) (sName 0) (fun δ => bd (e2 (gInT false) (eVar 0) (eVar 1) δ) tru) (e2 gGet (eVar 1) (eVar 0)))) (fSq (fSet 5 (eCnt (eVar 3) (eC (.str "*")))) (fun δ => (fSq (fIf (bOr (bNot (fun δ => bd ((eCb (gCall 3 (M_is_hand C)) (aCons (eVar 0) (aCons (eVar 4) (aCons (eVar 5) aNil)))) δ) tru)) (fun δ => bd (e2 (gEq true) (eCb (gCallX 3 (M_shown C E_BadHand)) (aCons (eVar 0) (aCons (eVar 4) (aCons (eVar 5) aNil)))) (eVar 1) δ) tru)) (fun _ => some (.error (.ref E_BadNote))) fNil) (fun δ => (fRet (eTup (aCons (eVar 4) (aCons (eVar 5) aNil)))) (frz 4 δ))) (frz 4 δ)))) (frz 3 δ))))
noncomputable def M_read (C : Addr) (E_BadHand : Addr) (E_BadNote : Addr) : List DV → M DV := mir ["house", "text", "tiles", "words", "hand", "jokers"] (F_read C E_BadHand E_BadNote)
theorem h_read {C E_BadHand E_BadHouse E_BadLaying E_BadNote E_MeldError : Addr} (T : Tx K mg C) (R : Rx K mg E_BadHand E_BadHouse E_BadLaying E_BadNote E_MeldError) (D : Df K mg "read" s_read ["house", "text"])  (h_all_tiles : Has P w K mg base 1 "all_tiles" 1 (M_all_tiles C)) (h_tile_word : Has P w K mg base 1 "tile_word" 1 (M_tile_word)) (h_is_hand : Has P w K mg base 2 "is_hand" 3 (M_is_hand C)) (h_shown : HasX P w K mg base 4 "shown" 3 (M_shown C E_BadHand)) : HasX P w K mg base 5 "read" 2 (M_read C E_BadHand E_BadNote) := D.hasX fun f fd Fu => fnX (k := 4) Fu sc_read rfl fun cdv A outer s H E hr => by
  have hu := hu64 hr
  have nd := sc_read.nd
  refine ds_cons ?_ ?_
  · refine st_set (i := 2) ?_ ?_
    · exact nd
    · exact (px_callTy (cv_dict rfl) rfl T.b_dict bt_dict (px_acons (px_comp (N' := ["tile"]) (CompSc.fit (sc := defScope s_read) (N := ["house", "text", "tiles", "words", "hand", "jokers"]) ⟨rfl, by decide +kernel, by decide +kernel, by decide +kernel, rfl, by decide +kernel⟩) (by decide) rfl (ix_ls (px_has (h_all_tiles.mono (by decide)) hr (px_acons (px_var 0 (pv 0)) px_anil))) (tg_name 0) (sub_name (by decide)) (fun _ _ _ _ => (pg_name (i := 0) (show List.Nodup (["tile"] : List Str) by decide +kernel) rfl (by first | exact Or.inl rfl | exact Or.inr rfl))) (fun _ _ _ _ => pf_yes) (fun _ _ _ _ => (px_tup (px_acons (px_has (h_tile_word.mono (by decide)) hr (px_acons (px_var 0 (pv 0)) px_anil)) (px_acons (px_var 0 (pv 0)) px_anil))))) px_anil))
  · refine ds_cons ?_ ?_
    · refine st_set (i := 3) ?_ ?_
      · exact nd
      · exact (px_split (px_var 1 (pv 1)) (px_str (by decide +kernel)))
    · refine ds_frz 3 ?_
      refine ds_cons ?_ ?_
      · refine st_setC (i := 4) (N' := ["word", "tiles"]) (CompSc.fit (sc := defScope s_read) (N := ["house", "text", "tiles", "words", "hand", "jokers"]) ⟨rfl, by decide +kernel, by decide +kernel, by decide +kernel, rfl, by decide +kernel⟩) (by decide) rfl (by exact nd) (ix_ls (px_var 3 (pv 3))) (tg_name 0) (sub_name (by decide)) (fun _ _ _ _ => (pg_name (i := 0) (show List.Nodup (["word", "tiles"] : List Str) by decide +kernel) rfl (by first | exact Or.inl rfl | exact Or.inr rfl))) (fun _ _ _ _ => pf_one (pb_cmp ov_inT (px_var 0 (pv 0)) (px_var 1 (pv 1)))) (fun _ _ _ _ => (px_get (px_var 1 (pv 1)) (px_var 0 (pv 0))))
      · refine ds_cons ?_ ?_
        · refine st_set (i := 5) ?_ ?_
          · exact nd
          · exact (px_count hu (px_var 3 (pv 3)) (px_gs T.i_JOKER (by decide +kernel)))
        · refine ds_frz 4 ?_
          refine ds_cons ?_ ?_
          · refine st_if ?_ ?_ ?_
            · exact (PWb.pb (pb_or (pb_not (pb_val (px_has (h_is_hand.mono (by decide)) hr (by refine px_acons ?_ ?_; (exact (px_var 0 (pv 0))); (exact (px_acons (px_var 4 (pv 4)) (px_acons (px_var 5 (pv 5)) px_anil))))))) (pb_or1 (pb_cmp (ov_ne hu) (by refine px_hasX (h_shown.mono (by decide)) hr pass_on ?_; exact (by refine px_acons ?_ ?_; (exact (px_var 0 (pv 0))); (exact (px_acons (px_var 4 (pv 4)) (px_acons (px_var 5 (pv 5)) px_anil))))) (px_var 1 (pv 1))))))
            · refine ds_one ?_
              exact st_raise (makes_fn hr) R.x_BadNote
            · exact ds_nil
          · refine ds_frz 4 ?_
            refine ds_one ?_
            exact st_ret (px_tup (px_acons (px_var 4 (pv 4)) (px_acons (px_var 5 (pv 5)) px_anil)))
noncomputable abbrev s_helpers : Stmt := top 48
theorem sc_helpers : FnScope ["house", "hand", "jokers", "table", "room"] ["house", "hand", "jokers"] (defScope s_helpers) := ⟨rfl, rfl, rfl, by decide +kernel, rfl, by decide +kernel, by decide +kernel⟩
noncomputable def F_helpers (C : Addr) (E_BadHand : Addr) : DS → M Out := (fSq (fDrop (eCb (gCallX 3 (M_check_hand C E_BadHand)) (aCons (eVar 0) (aCons (eVar 1) (aCons (eVar 2) aNil))))) fNo)
noncomputable def M_helpers (C : Addr) (E_BadHand : Addr) : List DV → M DV := mir ["house", "hand", "jokers", "table", "room"] (F_helpers C E_BadHand)
theorem h_helpers {C E_BadHand E_BadHouse E_BadLaying E_BadNote E_MeldError : Addr} (T : Tx K mg C) (R : Rx K mg E_BadHand E_BadHouse E_BadLaying E_BadNote E_MeldError) (D : Df K mg "helpers" s_helpers ["house", "hand", "jokers"])  (h_check_hand : HasX P w K mg base 3 "check_hand" 3 (M_check_hand C E_BadHand)) : HasX P w K mg base 4 "helpers" 3 (M_helpers C E_BadHand) := D.hasX fun f fd Fu => fnX (k := 3) Fu sc_helpers rfl fun cdv A outer s H E hr => by
  have hu := hu64 hr
  have nd := sc_helpers.nd
  refine ds_cons ?_ ?_
  · refine st_expr ?_
    exact (by refine px_hasX (h_check_hand.mono (by decide)) hr pass_on ?_; exact (by refine px_acons ?_ ?_; (exact (px_var 0 (pv 0))); (exact (px_acons (px_var 1 (pv 1)) (px_acons (px_var 2 (pv 2)) px_anil)))))
  · exact ds_no
noncomputable abbrev s__law_cell_at : Stmt := top 50
theorem sc__law_cell_at : FnScope ["script", "k"] ["script", "k"] (defScope s__law_cell_at) := ⟨rfl, rfl, rfl, by decide +kernel, rfl, by decide +kernel, by decide +kernel⟩
theorem h__law_cell_at {C E_BadHand E_BadHouse E_BadLaying E_BadNote E_MeldError : Addr} (T : Tx K mg C) (R : Rx K mg E_BadHand E_BadHouse E_BadLaying E_BadNote E_MeldError) (D : Df K mg "_law_cell_at" s__law_cell_at ["script", "k"])   : Has P w K mg base 1 "_law_cell_at" 2 (M__law_cell_at K) := D.has fun f fd Fu => fn0 (k := 0) Fu sc__law_cell_at rfl fun cdv A outer s H E hr => by
  have hu := hu64 hr
  have nd := sc__law_cell_at.nd
  refine ds_cons ?_ ?_
  · refine st_if ?_ ?_ ?_
    · exact (pb_cmp (ov_ltX hu) (px_var 1 (pv 1)) (px_callB cv_lenS rfl T.b_len bt_len (px_acons (px_var 0 (pv 0)) px_anil)))
    · refine ds_one ?_
      exact st_ret (px_ixS (px_var 0 (pv 0)) (px_var 1 (pv 1)))
    · exact ds_nil
  · refine ds_one ?_
    exact st_ret px_int
noncomputable abbrev s__law_mix : Stmt := top 51
theorem sc__law_mix : FnScope ["cell", "k", "many", "some", "stir"] ["cell", "k", "many"] (defScope s__law_mix) := ⟨rfl, rfl, rfl, by decide +kernel, rfl, by decide +kernel, by decide +kernel⟩
theorem h__law_mix {C E_BadHand E_BadHouse E_BadLaying E_BadNote E_MeldError : Addr} (T : Tx K mg C) (R : Rx K mg E_BadHand E_BadHouse E_BadLaying E_BadNote E_MeldError) (D : Df K mg "_law_mix" s__law_mix ["cell", "k", "many"])   : Has P w K mg base 1 "_law_mix" 3 (M__law_mix) := D.has fun f fd Fu => fn0 (k := 0) Fu sc__law_mix rfl fun cdv A outer s H E hr => by
  have hu := hu64 hr
  have nd := sc__law_mix.nd
  refine ds_cons ?_ ?_
  · refine st_set (i := 3) ?_ ?_
    · exact nd
    · exact (by refine px_lst ?_; (exact (by refine px_acons ?_ ?_; (exact (by exact px_int)); (exact (by refine px_acons ?_ ?_; (exact (by exact px_int)); (exact (by refine px_acons ?_ ?_; (exact (by exact px_int)); (exact (by refine px_acons ?_ ?_; (exact (by exact px_int)); (exact (by refine px_acons ?_ ?_; (exact (by exact px_int)); (exact (by refine px_acons ?_ ?_; (exact (by exact px_int)); (exact (by refine px_acons ?_ ?_; (exact (by exact px_int)); (exact (by refine px_acons ?_ ?_; (exact (by exact px_int)); (exact (by refine px_acons ?_ ?_; (exact (by exact px_int)); (exact (by refine px_acons ?_ ?_; (exact (by exact px_int)); (exact (by refine px_acons ?_ ?_; (exact (by exact px_int)); (exact (by refine px_acons ?_ ?_; (exact (by exact px_int)); (exact (by refine px_acons ?_ ?_; (exact (by exact px_int)); (exact px_anil))))))))))))))))))))))))))))
  · refine ds_cons ?_ ?_
    · refine st_set (i := 4) ?_ ?_
      · exact nd
      · exact (px_op ov_plus (px_op ov_plus (px_op ov_times (px_op ov_plus (px_op ov_mod (px_var 0 (pv 0)) (by exact px_int)) (by exact px_int)) (px_ix (px_var 3 (pv 3)) (px_op ov_mod (px_var 1 (pv 1)) px_int))) (px_op ov_times (by exact px_int) (px_var 1 (pv 1)))) (px_op ov_times (by exact px_int) (px_op ov_div (px_var 1 (pv 1)) px_int)))
    · refine ds_cons ?_ ?_
      · refine st_set (i := 4) ?_ ?_
        · exact nd
        · exact (px_op ov_mod (px_var 4 (pv 4)) (by exact px_int))
      · refine ds_one ?_
        exact st_ret (px_op ov_mod (px_op ov_div (px_op ov_mod (px_op ov_plus (px_op ov_times (px_var 4 (pv 4)) (px_var 4 (pv 4))) (px_op ov_times (by exact px_int) (px_var 1 (pv 1)))) (by exact px_int)) px_int) (px_var 2 (pv 2)))
noncomputable abbrev s__law_house_by : Stmt := top 52
theorem sc__law_house_by : FnScope ["script", "cell"] ["script"] (defScope s__law_house_by) := ⟨rfl, rfl, rfl, by decide +kernel, rfl, by decide +kernel, by decide +kernel⟩
theorem h__law_house_by {C E_BadHand E_BadHouse E_BadLaying E_BadNote E_MeldError : Addr} (T : Tx K mg C) (R : Rx K mg E_BadHand E_BadHouse E_BadLaying E_BadNote E_MeldError) (D : Df K mg "_law_house_by" s__law_house_by ["script"])  (h__law_cell_at : Has P w K mg base 1 "_law_cell_at" 2 (M__law_cell_at K)) (h__law_mix : Has P w K mg base 1 "_law_mix" 3 (M__law_mix)) : Has P w K mg base 2 "_law_house_by" 1 (M__law_house_by K) := D.has fun f fd Fu => fn0 (k := 1) Fu sc__law_house_by rfl fun cdv A outer s H E hr => by
  have hu := hu64 hr
  have nd := sc__law_house_by.nd
  refine ds_cons ?_ ?_
  · refine st_set (i := 1) ?_ ?_
    · exact nd
    · exact (px_has (h__law_cell_at.mono (by decide)) hr (px_acons (px_var 0 (pv 0)) (px_acons px_int px_anil)))
  · refine ds_one ?_
    exact st_ret (px_tup (px_acons (px_op ov_plus px_int (px_has (h__law_mix.mono (by decide)) hr (by refine px_acons ?_ ?_; (exact (px_var 1 (pv 1))); (exact (px_acons px_int (px_acons (px_ix (by refine px_lst ?_; (exact (by refine px_acons ?_ ?_; (exact px_int); (exact (by refine px_acons ?_ ?_; (exact px_int); (exact (by refine px_acons ?_ ?_; (exact px_int); (exact (by refine px_acons ?_ ?_; (exact px_int); (exact px_anil)))))))))) (px_has (h__law_mix.mono (by decide)) hr (by refine px_acons ?_ ?_; (exact (px_var 1 (pv 1))); (exact (px_acons px_int (px_acons px_int px_anil)))))) px_anil)))))) (px_acons (px_op ov_plus px_int (px_has (h__law_mix.mono (by decide)) hr (by refine px_acons ?_ ?_; (exact (px_var 1 (pv 1))); (exact (px_acons px_int (px_acons px_int px_anil)))))) px_anil)))
end
end K12
set_option Elab.async false
set_option linter.all false
set_option maxRecDepth 100000
set_option maxHeartbeats 1000000
set_option autoImplicit false
namespace K12
open PySem PySem.Spec L2 L3 LW
open PyProof.Rows hiding St
section
variable {P : Program} {w : World} {K : PySem.W.Frag} {mg : Str → Option Value} {base : Heap}
noncomputable abbrev s__law_which : Stmt := top 56
theorem sc__law_which : FnScope ["e", "told"] ["e"] (defScope s__law_which) := ⟨rfl, rfl, rfl, by decide +kernel, rfl, by decide +kernel, by decide +kernel⟩
noncomputable def W12 (E_BadHouse E_BadHand E_BadLaying E_BadNote : Addr) (c : Value) : Option Int := if c = .ref E_BadHouse then some 0 else if c = .ref E_BadHand then some 1 else if c = .ref E_BadLaying then some 2 else if c = .ref E_BadNote then some 3 else none
noncomputable def F__law_which (e : Addr) (b1 b2 b3 b4 : Bool) : DS → M Out := fSq (fSet 1 (eLst (aCons (eIsE 0 e b1) (aCons (eIsE 0 e b2) (aCons (eIsE 0 e b3) (aCons (eIsE 0 e b4) aNil)))))) (fSq (fIf (bOr (bNot (fun δ => bd (eIsE 0 e true δ) tru)) (bOr (bNot (fun δ => bd (eIsE 0 e true δ) tru)) (fun δ => bd (e2 (gEq true) (eCnt (eVar 1) (eC (.bool true))) (eC (.int 1)) δ) tru))) (fRet (eNeg (eC (.int 1)))) fNil) (fRet (eIdx (eVar 1) (eC (.bool true)))))
theorem isE_is {i : Nat} {e : Addr} {b : Bool} {δ : DS} (h : δ[i]? = some (some (.ex e))) : eIsE i e b δ = rt (.d (.bool b)) := by
  unfold eIsE
  rw [h]
  exact if_pos rfl
theorem F_which {e : Addr} {b1 b2 b3 b4 : Bool} {k : Int} (hc : gCnt (.own [.bool b1, .bool b2, .bool b3, .bool b4]) (.d (.bool true)) = rt (.d (.int 1))) (hi : gIdx (.own [.bool b1, .bool b2, .bool b3, .bool b4]) (.d (.bool true)) = rt (.d (.int k))) : F__law_which e b1 b2 b3 b4 (dst ["e", "told"] [.ex e]) = rt (.rt (.d (.int k))) := by
  unfold F__law_which
  have hl : eLst (aCons (eIsE 0 e b1) (aCons (eIsE 0 e b2) (aCons (eIsE 0 e b3) (aCons (eIsE 0 e b4) aNil)))) [some (.ex e), none] = rt (.new [.bool b1, .bool b2, .bool b3, .bool b4]) := by
    unfold eLst
    rw [a4x (isE_is rfl) (isE_is rfl) (isE_is rfl) (isE_is rfl)]
    rfl
  refine sqN (δ' := [some (.ex e), some (.own [.bool b1, .bool b2, .bool b3, .bool b4])]) (setN hl rfl rfl) ?_
  refine sqN (ifF (or_no (not_is' (tst_is (isE_is rfl)) rfl) (or_no (not_is' (tst_is (isE_is rfl)) rfl) (tst_is ((e2_is (x := .d (.int 1)) (y := .d (.int 1)) ((cnt_is (x := .own [.bool b1, .bool b2, .bool b3, .bool b4]) (y := .d (.bool true)) rfl rfl rfl).trans hc) rfl).trans rfl)))) rfl) ?_
  refine ret_is ?_
  unfold eIdx
  show bd (op (some [PyData.bool b1, .bool b2, .bool b3, .bool b4])) (fun _ => bd (rt (DV.d (.bool true))) fun y => gIdx (.own [.bool b1, .bool b2, .bool b3, .bool b4]) y) = _
  rw [op_some, bd_rt, bd_rt]
  exact hi
theorem kit_ne {K : PySem.W.Frag} {a b : Addr} (h : PySem.W.kitOne K (.ref a) (.ref b) = some false) : a ≠ b := fun z => by
  subst z
  unfold PySem.W.kitOne at h
  rw [if_pos (beq_self_eq_true _)] at h
  cases h
theorem which_body {C E_BadHand E_BadHouse E_BadLaying E_BadNote E_MeldError : Addr} (T : Tx K mg C) (R : Rx K mg E_BadHand E_BadHouse E_BadLaying E_BadNote E_MeldError) {D e f : Addr} {oe : Obj} {cdv : Value} {A0 A : Around} {outer : List Env} {s : Shared} {H : Hp} {b1 b2 b3 b4 : Bool} (hu : A.units + 64 < cLine) (hc : oe.cls = .ref D) (k : Xy K D)
    (q1 : PySem.W.kitOne K (.ref D) (.ref E_BadHouse) = some b1) (q2 : PySem.W.kitOne K (.ref D) (.ref E_BadHand) = some b2) (q3 : PySem.W.kitOne K (.ref D) (.ref E_BadLaying) = some b3) (q4 : PySem.W.kitOne K (.ref D) (.ref E_BadNote) = some b4)
    (qM : PySem.W.kitOne K (.ref D) (.ref E_MeldError) = some true) (qV : PySem.W.kitOne K (.ref D) (.type "ValueError") = some true) :
    PSd (Cx.noisy (cxOf CX0 P w K mg base ["e", "told"] "_law_which" (defScope s__law_which) f cdv A0 outer s H E0) A e oe) E0 (defBody s__law_which) (F__law_which e b1 b2 b3 b4) := by
  have nd := sc__law_which.nd
  have hp : (e, oe) ∈ (Cx.noisy (cxOf CX0 P w K mg base ["e", "told"] "_law_which" (defScope s__law_which) f cdv A0 outer s H E0) A e oe).pn := List.mem_cons_self
  refine ds_cons ?_ ?_
  · refine st_set (i := 1) ?_ ?_
    · exact nd
    · refine px_lst ?_
      refine px_acons (px_tEx (pe_isOy hp hc k q1 T.b_isinstance R.m_BadHouse (pv 0))) ?_
      refine px_acons (px_tEx (pe_isOy hp hc k q2 T.b_isinstance R.m_BadHand (pv 0))) ?_
      refine px_acons (px_tEx (pe_isOy hp hc k q3 T.b_isinstance R.m_BadLaying (pv 0))) ?_
      exact px_acons (px_tEx (pe_isOy hp hc k q4 T.b_isinstance R.m_BadNote (pv 0))) px_anil
  · refine ds_cons ?_ ?_
    · refine st_if ?_ ?_ ?_
      · refine PWb.pb (pb_or (pb_not (pb_val ?_)) (pb_or (pb_not (pb_val ?_)) (pb_or1 (pb_cmp (ov_ne hu) (px_count hu (px_var 1 (pv 1)) px_bl) px_int))))
        · exact px_tEx (pe_isOy hp hc k qM T.b_isinstance R.m_MeldError (pv 0))
        · exact px_tEx (pe_isT hp hc qV T.b_isinstance T.b_ValueError bt_ValueError (pv 0))
      · refine ds_one ?_
        exact st_ret (px_neg px_int)
      · exact ds_nil
    · refine ds_one ?_
      exact st_ret (px_index hu (px_var 1 (pv 1)) px_bl)
theorem hw12 {X : Cx} {C E_BadHand E_BadHouse E_BadLaying E_BadNote E_MeldError : Addr} {n : Str} {i k : Nat} {p p1 pos : Pos} (T : Tx X.K X.mg C) (R : Rx X.K X.mg E_BadHand E_BadHouse E_BadLaying E_BadNote E_MeldError) (D_which : Df X.K X.mg "_law_which" s__law_which ["e"]) (hr : Room (k + 1) X.A)
    (hn : ∀ e pn W, PE (Cx.caught X e pn W) (.Name n p1) (tVar i)) (c : Value) (d : Int) (h : W12 E_BadHouse E_BadHand E_BadLaying E_BadNote c = some d) (hg : Gl X "_law_which" := by rfl)
    (he : ∀ e pn W, starEach [.Name n p1] (Cx.caught X e pn W).env = (false, eval (.Name n p1) (Cx.caught X e pn W).env) :: starEach [] (Cx.caught X e pn W).env := by intro _ _ _; rfl) (hpl : ∀ e pn W, (backTo pos (starEach [] (Cx.caught X e pn W).env)).any (·.1) = false := by intro _ _ _; rfl) :
    ∃ D, c = .ref D ∧ D ≠ E_MeldError ∧ PySem.W.kitOne X.K (.ref D) (.ref E_MeldError) = some true ∧
      ∀ e pn W' oe, oe.cls = .ref D → (e, oe) ∈ pn → PE (Cx.caught X e pn W') (.Call (.Name "_law_which" p) [.Name n p1] [] pos) (fun σ H Q => σ[i]? = some (some (.ref e)) ∧ ∀ H', Same H H' → Q (.int d) H') := by
  have hu : ∀ (e : Addr) (env : Env), ((X.A.mark (some (.ref e))).deeper env).units + 64 < cLine := fun e env => (show (X.A.deeper env).units + 64 < cLine from hu64 (hr.deeper env))
  unfold W12 at h
  split at h
  · rename_i hc
    cases h
    refine ⟨_, hc, (kit_ne R.q_MeldError_BadHouse).symm, R.q_BadHouse_MeldError, fun e pn W' oe ho hp => ?_⟩
    exact pe_which D_which sc__law_which hr hp (hn e pn W') (fun f cdv outer s H => which_body T R (hu e _) ho R.k_BadHouse R.q_BadHouse_BadHouse R.q_BadHouse_BadHand R.q_BadHouse_BadLaying R.q_BadHouse_BadNote R.q_BadHouse_MeldError R.q_BadHouse_ValueError) (F_which rfl rfl) hg (by decide) (he e pn W') (hpl e pn W')
  · split at h
    · rename_i hc
      cases h
      refine ⟨_, hc, (kit_ne R.q_MeldError_BadHand).symm, R.q_BadHand_MeldError, fun e pn W' oe ho hp => ?_⟩
      exact pe_which D_which sc__law_which hr hp (hn e pn W') (fun f cdv outer s H => which_body T R (hu e _) ho R.k_BadHand R.q_BadHand_BadHouse R.q_BadHand_BadHand R.q_BadHand_BadLaying R.q_BadHand_BadNote R.q_BadHand_MeldError R.q_BadHand_ValueError) (F_which rfl rfl) hg (by decide) (he e pn W') (hpl e pn W')
    · split at h
      · rename_i hc
        cases h
        refine ⟨_, hc, (kit_ne R.q_MeldError_BadLaying).symm, R.q_BadLaying_MeldError, fun e pn W' oe ho hp => ?_⟩
        exact pe_which D_which sc__law_which hr hp (hn e pn W') (fun f cdv outer s H => which_body T R (hu e _) ho R.k_BadLaying R.q_BadLaying_BadHouse R.q_BadLaying_BadHand R.q_BadLaying_BadLaying R.q_BadLaying_BadNote R.q_BadLaying_MeldError R.q_BadLaying_ValueError) (F_which rfl rfl) hg (by decide) (he e pn W') (hpl e pn W')
      · split at h
        · rename_i hc
          cases h
          refine ⟨_, hc, (kit_ne R.q_MeldError_BadNote).symm, R.q_BadNote_MeldError, fun e pn W' oe ho hp => ?_⟩
          exact pe_which D_which sc__law_which hr hp (hn e pn W') (fun f cdv outer s H => which_body T R (hu e _) ho R.k_BadNote R.q_BadNote_BadHouse R.q_BadNote_BadHand R.q_BadNote_BadLaying R.q_BadNote_BadNote R.q_BadNote_MeldError R.q_BadNote_ValueError) (F_which rfl rfl) hg (by decide) (he e pn W') (hpl e pn W')
        · cases h
noncomputable abbrev s__law_met : Stmt := top 57
theorem sc__law_met : FnScope ["house", "way", "e"] ["house", "way"] (defScope s__law_met) := ⟨rfl, rfl, rfl, by decide +kernel, rfl, by decide +kernel, by decide +kernel⟩
noncomputable def F__law_met (C : Addr) (E_BadHand : Addr) (E_BadHouse : Addr) (E_BadLaying : Addr) (E_BadNote : Addr) (E_MeldError : Addr) : DS → M Out := (fSq (fTryR (fIf (fun δ => bd (e2 (gEq false) (eVar 1) (eC (.int 0)) δ) tru) (fDrop (eMkH C E_BadHouse (aCons (eC (.int 2)) (aCons (eC (.int 1)) aNil)))) (fIf (fun δ => bd (e2 (gEq false) (eVar 1) (eC (.int 1)) δ) tru) (fDrop (eCb (gCallX 3 (M_helpers C E_BadHand)) (aCons (eVar 0) (aCons (eLst (aCons (eTup (aCons (eC (.int 1)) (aCons (eC (.int 0)) aNil))) aNil)) (aCons (eC (.int 3)) aNil))))) (fIf (fun δ => bd (e2 (gEq false) (eVar 1) (eC (.int 2)) δ) tru) (fDrop (eCb (gCallX 4 (M_left C E_BadHand E_BadLaying)) (aCons (eVar 0) (aCons (eLst (aCons (eTup (aCons (eC (.int 2)) (aCons (eC (.int 0)) aNil))) (aCons (eTup (aCons (eC (.int 1)) (aCons (eC (.int 0)) aNil))) aNil))) (aCons (eC (.int 0)) (aCons (eLst aNil) aNil)))))) (fIf (fun δ => bd (e2 (gEq false) (eVar 1) (eC (.int 3)) δ) tru) (fDrop (eCb (gCallX 2 (M_tiles_of C E_BadLaying)) (aCons (eVar 0) (aCons (eTup (aCons (eC (.str "run")) (aCons (eC (.int 0)) (aCons (eC (.int 1)) (aCons (eC (.int 2)) aNil))))) aNil)))) (fIf (fun δ => bd (e2 (gEq false) (eVar 1) (eC (.int 4)) δ) tru) (fDrop (eCb (gCallX 4 (M_worth C E_BadHand E_BadLaying)) (aCons (eVar 0) (aCons (eLst (aCons (eTup (aCons (eC (.int 1)) (aCons (eC (.int 0)) aNil))) (aCons (eTup (aCons (eC (.int 2)) (aCons (eC (.int 0)) aNil))) aNil))) (aCons (eC (.int 0)) (aCons (eLst (aCons (eTup (aCons (eC (.str "run")) (aCons (eC (.int 0)) (aCons (eC (.int 1)) (aCons (eC (.int 3)) aNil))))) aNil)) aNil)))))) (fIf (fun δ => bd (e2 (gEq false) (eVar 1) (eC (.int 5)) δ) tru) (fDrop (eCb (gCallX 2 (M_read C E_BadHand E_BadNote)) (aCons (eVar 0) (aCons (eC (.str "3")) aNil)))) (fDrop (eCb (gCallX 2 (M_read C E_BadHand E_BadNote)) (aCons (eVar 0) (aCons (eC (.str "1a 1a 1a")) aNil)))))))))) (W12 E_BadHouse E_BadHand E_BadLaying E_BadNote)) (fRet (eC (.int 9))))
noncomputable def M__law_met (C : Addr) (E_BadHand : Addr) (E_BadHouse : Addr) (E_BadLaying : Addr) (E_BadNote : Addr) (E_MeldError : Addr) : List DV → M DV := mir ["house", "way", "e"] (F__law_met C E_BadHand E_BadHouse E_BadLaying E_BadNote E_MeldError)
theorem h__law_met {C E_BadHand E_BadHouse E_BadLaying E_BadNote E_MeldError : Addr} (T : Tx K mg C) (R : Rx K mg E_BadHand E_BadHouse E_BadLaying E_BadNote E_MeldError) (D : Df K mg "_law_met" s__law_met ["house", "way"]) (D_which : Df K mg "_law_which" s__law_which ["e"]) (h_House : HsK P w K mg base C E_BadHouse) (h_helpers : HasX P w K mg base 4 "helpers" 3 (M_helpers C E_BadHand)) (h_left : HasX P w K mg base 6 "left" 4 (M_left C E_BadHand E_BadLaying)) (h_tiles_of : HasX P w K mg base 4 "tiles_of" 2 (M_tiles_of C E_BadLaying)) (h_worth : HasX P w K mg base 7 "worth" 4 (M_worth C E_BadHand E_BadLaying)) (h_read : HasX P w K mg base 5 "read" 2 (M_read C E_BadHand E_BadNote)) : Has P w K mg base 8 "_law_met" 2 (M__law_met C E_BadHand E_BadHouse E_BadLaying E_BadNote E_MeldError) := D.has fun f fd Fu => fn0 (k := 7) Fu sc__law_met rfl fun cdv A outer s H E hr => by
  have hu := hu64 hr
  have nd := sc__law_met.nd
  refine ds_cons ?_ ?_
  · refine st_tryR (i := 2) (C := E_MeldError) R.x_MeldError ?_ ?_ ?_
    · exact nd
    · intro pn W E' pass
      refine ds_one ?_
      refine st_if ?_ ?_ ?_
      · exact (pb_cmp (ov_eq hu) (px_var 1 (pv 1)) px_int)
      · refine ds_one ?_
        refine st_expr ?_
        exact (by refine px_make h_House (by decide +kernel) (hr.mono (by decide)) pass ?_; exact (px_acons px_int (px_acons px_int px_anil)))
      · refine ds_one ?_
        refine st_if ?_ ?_ ?_
        · exact (pb_cmp (ov_eq hu) (px_var 1 (pv 1)) px_int)
        · refine ds_one ?_
          refine st_expr ?_
          exact (by refine px_hasX (h_helpers.mono (by decide)) hr pass ?_; exact (by refine px_acons ?_ ?_; (exact (px_var 0 (pv 0))); (exact (px_acons (px_lst (px_acons (px_tup (px_acons px_int (px_acons px_int px_anil))) px_anil)) (px_acons px_int px_anil)))))
        · refine ds_one ?_
          refine st_if ?_ ?_ ?_
          · exact (pb_cmp (ov_eq hu) (px_var 1 (pv 1)) px_int)
          · refine ds_one ?_
            refine st_expr ?_
            exact (by refine px_hasX (h_left.mono (by decide)) hr pass ?_; exact (by refine px_acons ?_ ?_; (exact (px_var 0 (pv 0))); (exact (by refine px_acons ?_ ?_; (exact (px_lst (px_acons (px_tup (px_acons px_int (px_acons px_int px_anil))) (px_acons (px_tup (px_acons px_int (px_acons px_int px_anil))) px_anil)))); (exact (by refine px_acons ?_ ?_; (exact px_int); (exact (by refine px_acons ?_ ?_; (exact (px_lst px_anil)); (exact px_anil)))))))))
          · refine ds_one ?_
            refine st_if ?_ ?_ ?_
            · exact (pb_cmp (ov_eq hu) (px_var 1 (pv 1)) px_int)
            · refine ds_one ?_
              refine st_expr ?_
              exact (by refine px_hasX (h_tiles_of.mono (by decide)) hr pass ?_; exact (px_acons (px_var 0 (pv 0)) (px_acons (px_tup (by refine px_acons ?_ ?_; (exact (px_str (by decide +kernel))); (exact (by refine px_acons ?_ ?_; (exact px_int); (exact (by refine px_acons ?_ ?_; (exact px_int); (exact (by refine px_acons ?_ ?_; (exact px_int); (exact px_anil))))))))) px_anil)))
            · refine ds_one ?_
              refine st_if ?_ ?_ ?_
              · exact (pb_cmp (ov_eq hu) (px_var 1 (pv 1)) px_int)
              · refine ds_one ?_
                refine st_expr ?_
                exact (by refine px_hasX (h_worth.mono (by decide)) hr pass ?_; exact (by refine px_acons ?_ ?_; (exact (px_var 0 (pv 0))); (exact (by refine px_acons ?_ ?_; (exact (px_lst (px_acons (px_tup (px_acons px_int (px_acons px_int px_anil))) (px_acons (px_tup (px_acons px_int (px_acons px_int px_anil))) px_anil)))); (exact (by refine px_acons ?_ ?_; (exact px_int); (exact (by refine px_acons ?_ ?_; (exact (px_lst (px_acons (px_tup (by refine px_acons ?_ ?_; (exact (px_str (by decide +kernel))); (exact (by refine px_acons ?_ ?_; (exact px_int); (exact (by refine px_acons ?_ ?_; (exact px_int); (exact (by refine px_acons ?_ ?_; (exact px_int); (exact px_anil))))))))) px_anil))); (exact px_anil)))))))))
              · refine ds_one ?_
                refine st_if ?_ ?_ ?_
                · exact (pb_cmp (ov_eq hu) (px_var 1 (pv 1)) px_int)
                · refine ds_one ?_
                  refine st_expr ?_
                  exact (by refine px_hasX (h_read.mono (by decide)) hr pass ?_; exact (px_acons (px_var 0 (pv 0)) (px_acons (px_str (by decide +kernel)) px_anil)))
                · refine ds_one ?_
                  refine st_expr ?_
                  exact (by refine px_hasX (h_read.mono (by decide)) hr pass ?_; exact (px_acons (px_var 0 (pv 0)) (px_acons (px_str (by decide +kernel)) px_anil)))
    · exact fun c d h => hw12 (n := "e") (i := 2) T R D_which hr (fun e pn W => pv 2) c d h
  · refine ds_one ?_
    exact st_ret px_int
noncomputable abbrev s_law : Stmt := top 58
theorem sc_law : FnScope ["script", "most", "colours", "house", "first", "k", "way"] ["script"] (defScope s_law) := ⟨rfl, rfl, rfl, by decide +kernel, rfl, by decide +kernel, by decide +kernel⟩
noncomputable def F_law (K : PySem.W.Frag) (C : Addr) (E_BadHand : Addr) (E_BadHouse : Addr) (E_BadLaying : Addr) (E_BadNote : Addr) (E_MeldError : Addr) : DS → M Out := (fSq (fTg (sTup 2 (sCons (sName 1) (sCons (sName 2) sNil))) (eCb (gCall 1 (M__law_house_by K)) (aCons (eVar 0) aNil))) (fSq (fSet 3 (eMkH C E_BadHouse (aCons (eVar 1) (aCons (eVar 2) aNil)))) (fSq (fSet 4 (e2 gMod (eCb (gCall 2 (M__law_cell_at K)) (aCons (eVar 0) (aCons (eC (.int 20)) aNil))) (eC (.int 7)))) (fSq (fFor (iR1 (aCons (eC (.int 7)) aNil)) (sName 5) (fSq (fSet 6 (e2 gMod (e2 gPlus3 (eVar 4) (eVar 5)) (eC (.int 7)))) (fIf (fun δ => bd (e2 (gEq true) (eCb (gCall 2 (M__law_met C E_BadHand E_BadHouse E_BadLaying E_BadNote E_MeldError)) (aCons (eVar 3) (aCons (eVar 6) aNil))) (e2 gIx (eLst (aCons (eC (.int 0)) (aCons (eC (.int 1)) (aCons (eC (.int 1)) (aCons (eC (.int 2)) (aCons (eC (.int 2)) (aCons (eC (.int 3)) (aCons (eC (.int 3)) aNil)))))))) (eVar 6)) δ) tru) (fRet (eC (.bool false))) fNil))) (fRet (eC (.bool true)))))))
noncomputable def M_law (K : PySem.W.Frag) (C : Addr) (E_BadHand : Addr) (E_BadHouse : Addr) (E_BadLaying : Addr) (E_BadNote : Addr) (E_MeldError : Addr) : List DV → M DV := mir ["script", "most", "colours", "house", "first", "k", "way"] (F_law K C E_BadHand E_BadHouse E_BadLaying E_BadNote E_MeldError)
theorem ok_law {C E_BadHand E_BadHouse E_BadLaying E_BadNote E_MeldError : Addr} (T : Tx K mg C) (R : Rx K mg E_BadHand E_BadHouse E_BadLaying E_BadNote E_MeldError) {f : Addr} {fd : FuncData} (Fu : Fun K "law" "law" s_law f fd) (h_House : HsK P w K mg base C E_BadHouse) (h__law_house_by : Has P w K mg base 2 "_law_house_by" 1 (M__law_house_by K)) (h__law_cell_at : Has P w K mg base 1 "_law_cell_at" 2 (M__law_cell_at K)) (h__law_met : Has P w K mg base 8 "_law_met" 2 (M__law_met C E_BadHand E_BadHouse E_BadLaying E_BadNote E_MeldError)) : FnOk P w K mg base CX0 9 f fd ["script"] (sp0 1 (M_law K C E_BadHand E_BadHouse E_BadLaying E_BadNote E_MeldError)) := fn0 (k := 8) Fu sc_law rfl fun cdv A outer s H E hr => by
  have hu := hu64 hr
  have nd := sc_law.nd
  refine ds_cons ?_ ?_
  · refine st_asg ?_ (pg_tup rfl (pgs_cons (pg_name (i := 1) (by exact nd) rfl (by first | exact Or.inl rfl | exact Or.inr rfl)) (pgs_cons (pg_name (i := 2) (by exact nd) rfl (by first | exact Or.inl rfl | exact Or.inr rfl)) pgs_nil))) (tg_tup (tg_cons (tg_name 1) (tg_cons (tg_name 2) tg_nil)))
    exact (px_has (h__law_house_by.mono (by decide)) hr (px_acons (px_var 0 (pv 0)) px_anil))
  · refine ds_cons ?_ ?_
    · refine st_set (i := 3) ?_ ?_
      · exact nd
      · exact (by refine px_make h_House (by decide +kernel) (hr.mono (by decide)) passR0 ?_; exact (px_acons (px_var 1 (pv 1)) (px_acons (px_var 2 (pv 2)) px_anil)))
    · refine ds_cons ?_ ?_
      · refine st_set (i := 4) ?_ ?_
        · exact nd
        · exact (px_op ov_mod (px_has (h__law_cell_at.mono (by decide)) hr (px_acons (px_var 0 (pv 0)) (px_acons px_int px_anil))) px_int)
      · refine ds_cons ?_ ?_
        · refine st_for PassesOwn.never rfl ?_ (pg_name (i := 5) (by exact nd) rfl (by first | exact Or.inl rfl | exact Or.inr rfl)) (tg_name 5) ?_
          · exact (ix_r1 T.b_range (px_acons px_int px_anil))
          · refine ds_cons ?_ ?_
            · refine st_set (i := 6) ?_ ?_
              · exact nd
              · exact (px_op ov_mod (px_op ov_plus3 (px_var 4 (pv 4)) (px_var 5 (pv 5))) px_int)
            · refine ds_one ?_
              refine st_if ?_ ?_ ?_
              · exact (pb_cmp (ov_ne hu) (px_has (h__law_met.mono (by decide)) hr (px_acons (px_var 3 (pv 3)) (px_acons (px_var 6 (pv 6)) px_anil))) (px_ix (by refine px_lst ?_; (exact (by refine px_acons ?_ ?_; (exact px_int); (exact (by refine px_acons ?_ ?_; (exact px_int); (exact (by refine px_acons ?_ ?_; (exact px_int); (exact (by refine px_acons ?_ ?_; (exact px_int); (exact (by refine px_acons ?_ ?_; (exact px_int); (exact (by refine px_acons ?_ ?_; (exact px_int); (exact (by refine px_acons ?_ ?_; (exact px_int); (exact px_anil)))))))))))))))) (px_var 6 (pv 6))))
              · refine ds_one ?_
                exact st_ret px_bl
              · exact ds_nil
        · refine ds_one ?_
          exact st_ret px_bl
end
end K12
set_option Elab.async false
set_option linter.all false
set_option maxRecDepth 100000
set_option maxHeartbeats 1000000
set_option autoImplicit false
namespace K12
open PySem PySem.Spec L2 L3 LW
noncomputable def letter (k : Nat) : Str := ⟨#[97 + k]⟩
noncomputable def wordP (p : Nat × Nat) : Str := Str.empty ++ Str.ofString (toString ((p.1 : Nat) : Int)) ++ letter p.2
noncomputable def prN (p : Nat × Nat) : D := pr ((p.1 : Int), (p.2 : Int))
noncomputable def rowP (c n0 : Nat) : List (Nat × Nat) := (List.range c).map fun k => (1 + n0, k)
noncomputable def allP (m c : Nat) : List (Nat × Nat) := (List.range m).flatMap (rowP c)
theorem mem_allP {m c : Nat} {p : Nat × Nat} (h : p ∈ allP m c) : 1 ≤ p.1 ∧ p.1 ≤ m ∧ p.2 < c := by
  unfold allP rowP at h
  obtain ⟨n0, hn, hp⟩ := List.mem_flatMap.mp h
  obtain ⟨k, hk, rfl⟩ := List.mem_map.mp hp
  have := List.mem_range.mp hn
  have := List.mem_range.mp hk
  exact ⟨by show 1 ≤ 1 + n0; lia, by show 1 + n0 ≤ m; lia, by assumption⟩
theorem num_ok : ∀ n ∈ List.range 14, ((n : Nat) : Int).natAbs.log2 < 1920 ∧ (Str.empty ++ Str.ofString (toString ((n : Nat) : Int))).length ≤ 1000000 := by decide +kernel
theorem word_ok : ∀ n ∈ List.range 14, ∀ k ∈ List.range 4, (letter k).length ≤ 1000000 ∧ (wordP (n, k)).length ≤ 1000000 ∧ PyData.strOk (wordP (n, k)) = true := by decide +kernel
theorem let_ok : ∀ k ∈ List.range 4, atI ("abcd" : Str).cps.toList ((k : Nat) : Int) = some (97 + k) ∧ PyData.strOk (letter k) = true := by decide +kernel
theorem m_word {p : Nat × Nat} (h1 : 1 ≤ p.1) (h13 : p.1 ≤ 13) (h4 : p.2 < 4) : M_tile_word [.d (prN p)] = rt (.d (.str (wordP p))) := by
  obtain ⟨n, k⟩ := p
  have hn := num_ok n (List.mem_range.mpr (by show n < 14; have : n ≤ 13 := h13; lia))
  have hw := word_ok n (List.mem_range.mpr (by have : n ≤ 13 := h13; lia)) k (List.mem_range.mpr h4)
  have hk := let_ok k (List.mem_range.mpr h4)
  unfold M_tile_word F_tile_word
  refine mir_is (x := .d (.str (wordP (n, k)))) ?_
  refine sqN (δ' := [some (.d (prN (n, k))), some (.d (.int (n : Int))), none]) (setN (x := .d (.int (n : Int))) ((e2_is (x := .d (prN (n, k))) (y := .d (.int 0)) rfl rfl).trans (gIx_tup rfl)) rfl rfl) ?_
  refine sqN (δ' := [some (.d (prN (n, k))), some (.d (.int (n : Int))), some (.d (.str (letter k)))]) (setN (x := .d (.str (letter k))) ((e2_is (x := .d (.str "abcd")) (y := .d (.int (k : Int))) rfl ((e2_is (x := .d (prN (n, k))) (y := .d (.int 1)) rfl rfl).trans (gIx_tup rfl))).trans ?_) rfl rfl) ?_
  · show bd (op (atI ("abcd" : Str).cps.toList ((k : Nat) : Int))) _ = _
    rw [hk.1, op_some, bd_rt, if_pos ⟨by decide +kernel, hk.2⟩]
    rfl
  · refine ret_is ?_
    unfold eF2
    show bd (op (asIF (.d (.int (n : Int))))) (fun i => bd (rt (DV.d (.str (letter k)))) fun y => gF2 i y) = _
    have ha : asIF (.d (.int (n : Int))) = some (n : Int) := if_pos hn
    rw [ha, op_some, bd_rt, bd_rt]
    exact if_pos hw
theorem row_turn (C : Addr) {m c : Nat} (hc : c ≤ 4) (n0 : Nat) (base : List D) (hb : base.length ≤ 1000) :
    (fExt 1 (eComp 1 [2] (iR1 (aCons (eFld C "colours" (eVar 0)) aNil)) (sName 0) bYes (eTup (aCons (eVar 1) (aCons (eVar 0) aNil))))) [some (hs C m c), some (.own base), some (.d (.int (1 + (n0 : Int))))] = rt (.nx [some (hs C m c), some (.own (base ++ (rowP c n0).map prN)), some (.d (.int (1 + (n0 : Int))))]) := by
  have hcomp : eComp 1 [2] (iR1 (aCons (eFld C "colours" (eVar 0)) aNil)) (sName 0) bYes (eTup (aCons (eVar 1) (aCons (eVar 0) aNil))) [some (hs C m c), some (.own base), some (.d (.int (1 + (n0 : Int))))] = rt (.new ((rowP c n0).map prN)) := by
    refine eComp_is (iR1_is (a1_is (gFld_colours C m c)) (by lia) (by lia)) (by rw [runI_len]; lia) ?_
    rw [show (c : Int).toNat = c by lia, run0]
    unfold rowP
    rw [List.map_map]
    refine comp_by (g := fun (k : Nat) => prN (1 + n0, k)) fun k _ => ?_
    refine (t2_is (a := .int (1 + (n0 : Int))) (b := .int (k : Int)) rfl rfl).trans ?_
    show rt (DV.d (pr (1 + (n0 : Int), (k : Int)))) = rt (DV.d (pr (((1 + n0 : Nat) : Int), (k : Int))))
    rw [show ((1 + n0 : Nat) : Int) = 1 + (n0 : Int) by lia]
  rw [ext_is (xs := base) rfl hcomp (by unfold rowP; simp; lia)]
  rfl
theorem rows_len {c : Nat} (hc : c ≤ 4) : ∀ pre : List Nat, (pre.flatMap (rowP c)).length ≤ 4 * pre.length
  | [] => by simp
  | x :: r => by
    have h1 := rows_len hc r
    have h2 : (rowP c x).length = c := by unfold rowP; simp
    rw [List.flatMap_cons, List.length_append, List.length_cons]
    lia
theorem m_all_tiles (C : Addr) {m c : Nat} (hm : m ≤ 13) (hc : c ≤ 4) : M_all_tiles C [hs C m c] = rt (.new ((allP m c).map prN)) := by
  unfold M_all_tiles F_all_tiles
  refine mir_is (x := .own ((allP m c).map prN)) ?_
  refine sqN (δ' := [some (hs C m c), some (.own []), none]) rfl ?_
  obtain ⟨δ', e, y2, hδ⟩ := loop_I (f := fun (k : Nat) => PyData.int (1 + (k : Int))) (i := 2) (N := m) (B := fExt 1 (eComp 1 [2] (iR1 (aCons (eFld C "colours" (eVar 0)) aNil)) (sName 0) bYes (eTup (aCons (eVar 1) (aCons (eVar 0) aNil))))) (all := List.range m)
    (fun pre δ => ∃ y2, δ = [some (hs C m c), some (.own ((pre.flatMap (rowP c)).map prN)), y2])
    (fun pre a δ ha hp ⟨y2, hδ⟩ => by
      subst hδ
      have hl := rows_len hc pre
      refine ⟨_, row_turn C hc a ((pre.flatMap (rowP c)).map prN) (by rw [List.length_map]; lia), some (.d (.int (1 + (a : Int)))), ?_⟩
      rw [List.flatMap_append, List.map_append, show [a].flatMap (rowP c) = rowP c a by simp])
    (List.range m) [] [some (hs C m c), some (.own []), none] (fun _ h => h) (by simp) ⟨none, rfl⟩
  refine sqN (δ' := [some (hs C m c), some (.own ((allP m c).map prN)), y2]) (for_is (xs := (List.range m).map fun (k : Nat) => PyData.int (1 + (k : Int))) ?_ ?_) (ret_is rfl)
  · rw [iR2_is (a2_is (x := .d (.int 1)) rfl ((e2_is (x := .d (.int (m : Int))) (y := .d (.int 1)) (gFld_most C m c) rfl).trans (gPlus3_int _ _))) (by lia) (by lia) (by lia) (by lia), show ((m : Int) + 1 - 1).toNat = m by lia]
    rfl
  · rw [e, hδ]
    rfl
noncomputable def kvsP (m c : Nat) : List (Str × D) := (allP m c).map fun p => (wordP p, prN p)
theorem keys_ok : ∀ m ∈ List.range 14, ∀ c ∈ List.range 5, ((allP m c).map wordP).Nodup ∧ ((allP m c).map wordP).all (fun z => !decide (z = ("3" : Str))) = true := by decide +kernel
theorem find_3 {m c : Nat} (hm : m ≤ 13) (hc : c ≤ 4) : findT (kvsP m c) "3" = none := by
  have h := (keys_ok m (List.mem_range.mpr (by lia)) c (List.mem_range.mpr (by lia))).2
  unfold findT kvsP
  rw [List.find?_eq_none.mpr]
  · rfl
  · intro x hx
    obtain ⟨p, hp, rfl⟩ := List.mem_map.mp hx
    rw [List.all_eq_true] at h
    have := h (wordP p) (List.mem_map.mpr ⟨p, hp, rfl⟩)
    simpa using this
theorem find_1a {m c : Nat} (hm : 1 ≤ m) (hc : 1 ≤ c) : findT (kvsP m c) "1a" = some (pr (1, 0)) := by
  obtain ⟨m', rfl⟩ : ∃ m', m = m' + 1 := ⟨m - 1, by lia⟩
  obtain ⟨c', rfl⟩ : ∃ c', c = c' + 1 := ⟨c - 1, by lia⟩
  unfold findT kvsP allP
  rw [List.range_succ_eq_map, List.flatMap_cons]
  unfold rowP
  rw [List.range_succ_eq_map (n := c'), List.map_cons, List.cons_append, List.map_cons, List.find?_cons_of_pos (by show decide (wordP (1 + 0, 0) = ("1a" : Str)) = true; decide +kernel)]
  rfl
theorem comp_find (kvs : List (Str × D)) (δ : DS) (hδ : (subD 1 [2] δ) = [none, some (.tbl kvs)]) : ∀ ws : List Str, compD (sName 0) (fun δ => bd (e2 (gInT false) (eVar 0) (eVar 1) δ) tru) (e2 gGet (eVar 1) (eVar 0)) (subD 1 [2] δ) (ws.map PyData.str) = some (ws.filterMap (findT kvs)) := by
  rw [hδ]
  intro ws
  induction ws with
  | nil => rfl
  | cons z ws ih =>
    rw [List.map_cons]
    unfold compD
    simp only [sName]
    have hg : (fun δ => bd (e2 (gInT false) (eVar 0) (eVar 1) δ) tru) [some (.d (.str z)), some (.tbl kvs)] = rt (findT kvs z).isSome := tst_is ((e2_is (x := .d (.str z)) (y := .tbl kvs) rfl rfl).trans rfl)
    show (match (fun δ => bd (e2 (gInT false) (eVar 0) (eVar 1) δ) tru) [some (.d (.str z)), some (.tbl kvs)] with | some (.ok false) => _ | some (.ok true) => _ | _ => _) = _
    rw [hg]
    cases hf : findT kvs z with
    | none =>
      rw [List.filterMap_cons_none hf]
      exact ih
    | some d =>
      rw [List.filterMap_cons_some hf]
      have he : e2 gGet (eVar 1) (eVar 0) [some (.d (.str z)), some (.tbl kvs)] = rt (.d d) := (e2_is (x := .tbl kvs) (y := .d (.str z)) rfl rfl).trans (by show bd (op (findT kvs z)) _ = _; rw [hf]; rfl)
      show (match e2 gGet (eVar 1) (eVar 0) [some (.d (.str z)), some (.tbl kvs)] with | some (.ok y) => (match asD y, _ with | some z, some zs => some (z :: zs) | _, _ => none) | _ => none) = _
      rw [he]
      show (match asD (DV.d d), compD (sName 0) (fun δ => bd (e2 (gInT false) (eVar 0) (eVar 1) δ) tru) (e2 gGet (eVar 1) (eVar 0)) [none, some (.tbl kvs)] (ws.map PyData.str) with | some z, some zs => some (z :: zs) | _, _ => none) = _
      rw [ih]
      rfl
end K12
set_option Elab.async false
set_option linter.all false
set_option maxRecDepth 100000
set_option maxHeartbeats 1000000
set_option autoImplicit false
namespace K12
open PySem PySem.Spec L2 L3 LW
section
variable (C E_BadHand E_BadHouse E_BadLaying E_BadNote E_MeldError : Addr) {m c j : Int} {ps : List (Int × Int)}
theorem m_checkN (hl : ps.length ≤ 1000) (hn : handOk m c ps j = false) : M_check_hand C E_BadHand [hs C m c, .d (.list (ps.map pr)), .d (.int j)] = some (.error (.ref E_BadHand)) := by
  have h := m_hand C m c j ps hl
  rw [hn] at h
  unfold M_check_hand F_check_hand
  exact mir_er (ifY (not_is' (tst_is (call_is (a3_is (x := hs C m c) (y := .d (.list (ps.map pr))) (z := .d (.int j)) rfl rfl rfl) rfl rfl h)) rfl) rfl)
theorem m_checkY (hl : ps.length ≤ 1000) (hn : handOk m c ps j = true) : M_check_hand C E_BadHand [hs C m c, .d (.list (ps.map pr)), .d (.int j)] = rt (.d .none) := by
  have h := m_hand C m c j ps hl
  rw [hn] at h
  unfold M_check_hand F_check_hand mir
  rw [ifF (not_is' (tst_is (call_is (a3_is (x := hs C m c) (y := .d (.list (ps.map pr))) (z := .d (.int j)) rfl rfl rfl) rfl rfl h)) rfl) rfl]
  rfl
theorem m_helpersN (hl : ps.length ≤ 1000) (hn : handOk m c ps j = false) : M_helpers C E_BadHand [hs C m c, .d (.list (ps.map pr)), .d (.int j)] = some (.error (.ref E_BadHand)) := by
  unfold M_helpers F_helpers
  exact mir_er (sq_er (drop_er (callX_is (a3_is (x := hs C m c) (y := .d (.list (ps.map pr))) (z := .d (.int j)) rfl rfl rfl) rfl rfl (m_checkN C E_BadHand hl hn))))
theorem m_leftN (hl : ps.length ≤ 1000) (hn : handOk m c ps j = false) (l : D) : M_left C E_BadHand E_BadLaying [hs C m c, .d (.list (ps.map pr)), .d (.int j), .d l] = some (.error (.ref E_BadHand)) := by
  unfold M_left F_left
  exact mir_er (sq_er (drop_er (callX_is (a3_is (x := hs C m c) (y := .d (.list (ps.map pr))) (z := .d (.int j)) rfl rfl rfl) rfl rfl (m_checkN C E_BadHand hl hn))))
theorem m_totalN (hl : ps.length ≤ 1000) : M_total [.d (.list (ps.map pr))] = rt (.d (.int (ps.map (·.1)).sum)) := by
  unfold M_total F_total
  refine mir_is (x := .d (.int (ps.map (·.1)).sum)) ?_
  refine ret_is ?_
  refine (cb_is (a1_is (x := .new (ps.map fun p => PyData.int p.1)) (eComp_is (xs := ps.map pr) (iLs_is ?_) (by rw [List.length_map]; lia) (comp_by (f := pr) (g := fun p => PyData.int p.1) fun p _ => ?_)))).trans ?_
  · rfl
  · exact (e2_is (x := .d (pr p)) (y := .d (.int 0)) rfl rfl).trans (gIx_tup rfl)
  · unfold gSum
    have : ps.map (fun p => PyData.int p.1) = (ps.map (·.1)).map PyData.int := by rw [List.map_map]; rfl
    simp only [asL_new, op_some, bd_rt]
    rw [this, intsL_map, op_some, bd_rt]
theorem ok2 (h3 : 3 ≤ m) (h1 : 1 ≤ c) : handOk m c [(1, 0), (2, 0)] 0 = true := by
  have t1 : tileOk m c (1, 0) = true := by unfold tileOk; simp; lia
  have t2 : tileOk m c (2, 0) = true := by unfold tileOk; simp; lia
  have c1 : cnt [(1, 0), (2, 0)] (1, 0) ≤ 2 := by decide +kernel
  have c2 : cnt [(1, 0), (2, 0)] (2, 0) ≤ 2 := by decide +kernel
  have o : inOrd [(1, 0), (2, 0)] = true := by decide +kernel
  unfold handOk tok
  simp only [List.map_cons, List.map_nil, t1, t2, decide_eq_true c1, decide_eq_true c2, o]
  decide
theorem m_laying (h3 : 3 ≤ m) (h1 : 1 ≤ c) : M_tiles_of_laying C E_BadLaying [hs C m c, .d (.list [rn 0 1 3])] = rt (.new (tilesR 0 1 3)) := by
  have hr : runOk m c 0 1 3 = true := by unfold runOk tileOk; simp; lia
  have ht := m_tiles_run C E_BadLaying m c 0 1 3 (by decide) (by decide)
  rw [if_pos hr] at ht
  unfold M_tiles_of_laying F_tiles_of_laying
  refine mir_is (x := .own (tilesR 0 1 3)) ?_
  refine sqN (δ' := [some (hs C m c), some (.d (.list [rn 0 1 3])), some (.own []), none]) rfl ?_
  refine sqN (δ' := [some (hs C m c), some (.d (.list [rn 0 1 3])), some (.own (tilesR 0 1 3)), some (.d (rn 0 1 3))]) (for_is (xs := [rn 0 1 3]) (iLs_is rfl) ?_) ?_
  · have e1 : fExt 2 (eCb (gCallX 2 (M_tiles_of C E_BadLaying)) (aCons (eVar 0) (aCons (eVar 3) aNil))) [some (hs C m c), some (.d (.list [rn 0 1 3])), some (.own []), some (.d (rn 0 1 3))] = rt (.nx [some (hs C m c), some (.d (.list [rn 0 1 3])), some (.own (tilesR 0 1 3)), some (.d (rn 0 1 3))]) := by
      have e0 : eCb (gCallX 2 (M_tiles_of C E_BadLaying)) (aCons (eVar 0) (aCons (eVar 3) aNil)) [some (hs C m c), some (.d (.list [rn 0 1 3])), some (.own []), some (.d (rn 0 1 3))] = rt (.new (tilesR 0 1 3)) := callX_is (n := 2) (a2_is (x := hs C m c) (y := .d (rn 0 1 3)) rfl rfl) rfl rfl ht
      exact (ext_is (xs := []) rfl e0 (by decide)).trans rfl
    unfold loopD
    show bd (fExt 2 _ [some (hs C m c), some (.d (.list [rn 0 1 3])), some (.own []), some (.d (rn 0 1 3))]) _ = _
    rw [e1, bd_rt]
    rfl
  · have ho : M_is_in_order [.d (.list [rn 0 1 3])] = rt (.d (.bool true)) := rfl
    refine sqN (ifF (not_is' (tst_is (call_is (a1_is (x := .d (.list [rn 0 1 3])) rfl) rfl rfl ho)) rfl) rfl) (ret_is rfl)
theorem m_lay : M_lay_out [.d (.list ([(1, 0), (2, 0)].map pr)), .d (.int 0), .d (.list (tilesR 0 1 3))] = rt (.d (.tuple [.list [], .int (-1)])) := rfl
theorem m_leftB (h3 : 3 ≤ m) (h1 : 1 ≤ c) : M_left C E_BadHand E_BadLaying [hs C m c, .d (.list ([(1, 0), (2, 0)].map pr)), .d (.int 0), .d (.list [rn 0 1 3])] = some (.error (.ref E_BadLaying)) := by
  unfold M_left F_left
  refine mir_er ?_
  refine sqN (δ' := [some (hs C m c), some (.d (.list ([(1, 0), (2, 0)].map pr))), some (.d (.int 0)), some (.d (.list [rn 0 1 3])), none]) (drop_is (callX_is (a3_is (x := hs C m c) (y := .d (.list ([(1, 0), (2, 0)].map pr))) (z := .d (.int 0)) rfl rfl rfl) rfl rfl (m_checkY C E_BadHand (ps := [(1, 0), (2, 0)]) (by decide) (ok2 h3 h1)))) ?_
  refine sqN (δ' := [some (hs C m c), some (.d (.list ([(1, 0), (2, 0)].map pr))), some (.d (.int 0)), some (.d (.list [rn 0 1 3])), some (.d (.tuple [.list [], .int (-1)]))]) (setN (x := .d (.tuple [.list [], .int (-1)])) (call_is (a3_is (x := .d (.list ([(1, 0), (2, 0)].map pr))) (y := .d (.int 0)) (z := .new (tilesR 0 1 3)) rfl rfl (callX_is (a2_is (x := hs C m c) (y := .d (.list [rn 0 1 3])) rfl rfl) rfl rfl (m_laying C E_BadLaying h3 h1))) rfl rfl m_lay) rfl rfl) ?_
  exact sq_er (ifY (tst_is ((e2_is (x := .d (.int (-1))) (y := .d (.int 0)) ((e2_is (x := .d (.tuple [.list [], .int (-1)])) (y := .d (.int 1)) rfl rfl).trans (gIx_tup rfl)) rfl).trans rfl)) rfl)
theorem m_worthB (h3 : 3 ≤ m) (h1 : 1 ≤ c) : M_worth C E_BadHand E_BadLaying [hs C m c, .d (.list ([(1, 0), (2, 0)].map pr)), .d (.int 0), .d (.list [rn 0 1 3])] = some (.error (.ref E_BadLaying)) := by
  unfold M_worth F_worth
  exact mir_er (ret_er (e2_er (call_is (a1_is (x := .d (.list ([(1, 0), (2, 0)].map pr))) rfl) rfl rfl (m_totalN (ps := [(1, 0), (2, 0)]) (by decide))) (cb_er (ac_er (e2_er1 (callX_is (a4x (x := hs C m c) (y := .d (.list ([(1, 0), (2, 0)].map pr))) (z := .d (.int 0)) (u := .d (.list [rn 0 1 3])) rfl rfl rfl rfl) rfl rfl (m_leftB C E_BadHand E_BadLaying h3 h1)))))))
theorem m_shown0 : M_shown C E_BadHand [hs C m c, .d (.list []), .d (.int 0)] = rt (.d (.str "-")) := by
  unfold M_shown F_shown
  refine mir_is (x := .d (.str "-")) ?_
  refine sqN (δ' := [some (hs C m c), some (.d (.list [])), some (.d (.int 0)), none]) (drop_is (callX_is (a3_is (x := hs C m c) (y := .d (.list [])) (z := .d (.int 0)) rfl rfl rfl) rfl rfl (m_checkY C E_BadHand (ps := []) (by decide) rfl))) ?_
  exact rfl
theorem split_3 : Txt.split ("3" : Str) " " = [("3" : Str)] := by decide +kernel
theorem split_1a : Txt.split ("1a 1a 1a" : Str) " " = [("1a" : Str), "1a", "1a"] := by decide +kernel
theorem ok_3 : splitOk ("3" : Str) " " = true := by decide +kernel
theorem ok_1a : splitOk ("1a 1a 1a" : Str) " " = true := by decide +kernel
end
end K12
set_option Elab.async false
set_option linter.all false
set_option maxRecDepth 100000
set_option maxHeartbeats 1000000
set_option autoImplicit false
namespace K12
open PySem PySem.Spec L2 L3 LW
section
variable (C E_BadHand E_BadHouse E_BadLaying E_BadNote E_MeldError : Addr) {m c : Nat}
theorem dict_is (hm : m ≤ 13) (hc : c ≤ 4) (z : Str) : (eCb gDict (aCons (eComp 1 [] (iLs (eCb (gCall 1 (M_all_tiles C)) (aCons (eVar 0) aNil))) (sName 0) bYes (eTup (aCons (eCb (gCall 1 (M_tile_word)) (aCons (eVar 0) aNil)) (aCons (eVar 0) aNil)))) aNil)) [some (hs C m c), some (.d (.str z)), none, none, none, none] = rt (.tbl (kvsP m c)) := by
  have hl : (allP m c).length ≤ 1000000 := by
    have := rows_len hc (List.range m)
    rw [List.length_range] at this
    unfold allP
    lia
  have hcomp : eComp 1 [] (iLs (eCb (gCall 1 (M_all_tiles C)) (aCons (eVar 0) aNil))) (sName 0) bYes (eTup (aCons (eCb (gCall 1 (M_tile_word)) (aCons (eVar 0) aNil)) (aCons (eVar 0) aNil))) [some (hs C m c), some (.d (.str z)), none, none, none, none] = rt (.new ((kvsP m c).map pairD)) := by
    have hi : iLs (eCb (gCall 1 (M_all_tiles C)) (aCons (eVar 0) aNil)) [some (hs C m c), some (.d (.str z)), none, none, none, none] = rt ((allP m c).map prN) := iLn_is (call_is (n := 1) (a1_is (x := hs C m c) rfl) rfl rfl (m_all_tiles C hm hc))
    refine eComp_is hi (by rw [List.length_map]; exact hl) ?_
    unfold kvsP
    rw [List.map_map]
    refine comp_by (g := fun p => pairD (wordP p, prN p)) fun p hp => ?_
    obtain ⟨h1, h2, h3⟩ := mem_allP hp
    exact t2_is (a := .str (wordP p)) (b := prN p) (call_is (n := 1) (a1_is (x := .d (prN p)) rfl) rfl rfl (m_word h1 (by lia) (by lia))) rfl
  rw [cb_is (a1_is hcomp)]
  unfold gDict
  simp only [asL_new, op_some, bd_rt]
  rw [pairsD_map, op_some, bd_rt, if_pos]
  have hk := (keys_ok m (List.mem_range.mpr (by lia)) c (List.mem_range.mpr (by lia))).1
  unfold kvsP
  rw [List.map_map]
  exact hk
theorem read_go {m c : Nat} (hm : m ≤ 13) (hc : c ≤ 4) (z : Str) (ws : List Str) (ps : List (Int × Int)) (hok : splitOk z " " = true) (hsp : Txt.split z " " = ws) (hf : ws.filterMap (findT (kvsP m c)) = ps.map pr) (hl : ws.length ≤ 1000) (hcn : gCnt (.d (.list (ws.map PyData.str))) (.d (.str "*")) = rt (.d (.int 0)))
    (hend : (bOr (bNot (fun δ => bd ((eCb (gCall 3 (M_is_hand C)) (aCons (eVar 0) (aCons (eVar 4) (aCons (eVar 5) aNil)))) δ) tru)) (fun δ => bd (e2 (gEq true) (eCb (gCallX 3 (M_shown C E_BadHand)) (aCons (eVar 0) (aCons (eVar 4) (aCons (eVar 5) aNil)))) (eVar 1) δ) tru)) [some (hs C m c), some (.d (.str z)), some (.tbl (kvsP m c)), some (.d (.list (ws.map PyData.str))), some (.d (.list (ps.map pr))), some (.d (.int 0))] = rt true) :
    M_read C E_BadHand E_BadNote [hs C m c, .d (.str z)] = some (.error (.ref E_BadNote)) := by
  unfold M_read F_read
  refine mir_er ?_
  refine sqN (δ' := [some (hs C m c), some (.d (.str z)), some (.tbl (kvsP m c)), none, none, none]) (setN (x := .tbl (kvsP m c)) (dict_is C hm hc z) rfl rfl) ?_
  refine sqN (δ' := [some (hs C m c), some (.d (.str z)), some (.tbl (kvsP m c)), some (.own (ws.map PyData.str)), none, none]) (setN (x := .new (ws.map PyData.str)) ?_ rfl rfl) ?_
  · unfold eSplit
    show gSplit z (.d (.str " ")) = _
    unfold gSplit
    simp only
    rw [if_pos hok, hsp]
  change fSq _ _ [some (hs C m c), some (.d (.str z)), some (.tbl (kvsP m c)), some (.d (.list (ws.map PyData.str))), none, none] = _
  refine sqN (δ' := [some (hs C m c), some (.d (.str z)), some (.tbl (kvsP m c)), some (.d (.list (ws.map PyData.str))), some (.own (ps.map pr)), none]) (setN (x := .new (ps.map pr)) (eComp_is (xs := ws.map PyData.str) (iLs_is rfl) (by rw [List.length_map]; lia) ?_) rfl rfl) ?_
  · rw [← hf]
    exact comp_find (kvsP m c) _ rfl ws
  refine sqN (δ' := [some (hs C m c), some (.d (.str z)), some (.tbl (kvsP m c)), some (.d (.list (ws.map PyData.str))), some (.own (ps.map pr)), some (.d (.int 0))]) (setN (x := .d (.int 0)) ((cnt_is (x := .d (.list (ws.map PyData.str))) (y := .d (.str "*")) rfl rfl rfl).trans hcn) rfl rfl) ?_
  change fSq _ _ [some (hs C m c), some (.d (.str z)), some (.tbl (kvsP m c)), some (.d (.list (ws.map PyData.str))), some (.d (.list (ps.map pr))), some (.d (.int 0))] = _
  exact sq_er (ifY hend rfl)
theorem read_3 (hm : m ≤ 13) (hc : c ≤ 4) : M_read C E_BadHand E_BadNote [hs C m c, .d (.str "3")] = some (.error (.ref E_BadNote)) := by
  refine read_go C E_BadHand E_BadNote hm hc "3" ["3"] [] ok_3 split_3 ?_ (by decide) rfl ?_
  · rw [List.filterMap_cons_none (find_3 hm hc)]; rfl
  · have h := m_hand C m c 0 [] (by decide)
    refine or_no (not_is' (tst_is (call_is (a3_is (x := hs C m c) (y := .d (.list [])) (z := .d (.int 0)) rfl rfl rfl) rfl rfl h)) rfl) (tst_is ((e2_is (x := .d (.str "-")) (y := .d (.str "3")) (callX_is (a3_is (x := hs C m c) (y := .d (.list [])) (z := .d (.int 0)) rfl rfl rfl) rfl rfl (m_shown0 C E_BadHand)) rfl).trans rfl))
theorem no3 {m c : Int} : handOk m c [(1, 0), (1, 0), (1, 0)] 0 = false := by
  have c3 : cnt [(1, 0), (1, 0), (1, 0)] (1, 0) = 3 := by decide +kernel
  unfold handOk tok
  simp only [List.map_cons, List.map_nil, c3]
  simp
theorem read_1a (hm : m ≤ 13) (hc : c ≤ 4) (h1 : 1 ≤ m) (h2 : 1 ≤ c) : M_read C E_BadHand E_BadNote [hs C m c, .d (.str "1a 1a 1a")] = some (.error (.ref E_BadNote)) := by
  refine read_go C E_BadHand E_BadNote hm hc "1a 1a 1a" ["1a", "1a", "1a"] [(1, 0), (1, 0), (1, 0)] ok_1a split_1a ?_ (by decide) rfl ?_
  · rw [List.filterMap_cons_some (find_1a h1 h2), List.filterMap_cons_some (find_1a h1 h2), List.filterMap_cons_some (find_1a h1 h2)]; rfl
  · have h := m_hand C m c 0 [(1, 0), (1, 0), (1, 0)] (by decide)
    rw [no3] at h
    exact or_yes (not_is' (tst_is (call_is (a3_is (x := hs C m c) (y := .d (.list ([(1, 0), (1, 0), (1, 0)].map pr))) (z := .d (.int 0)) rfl rfl rfl) rfl rfl h)) rfl)
theorem tryR_er {F : DS → M Out} {W : Value → Option Int} {δ : DS} {v : Value} {k : Int} (h : F δ = some (.error v)) (hw : W v = some k) : fTryR F W δ = rt (.rt (.d (.int k))) := by
  unfold fTryR
  rw [h]
  show bd (op (W v)) _ = _
  rw [hw]
  rfl
noncomputable def due (w : Nat) : Int := ([0, 1, 1, 2, 2, 3, 3] : List Int).getD w 0
theorem w_house : W12 E_BadHouse E_BadHand E_BadLaying E_BadNote (.ref E_BadHouse) = some 0 := by unfold W12; rw [if_pos rfl]
theorem ref_ne {a b : Addr} (h : a ≠ b) : ¬ (Value.ref a = Value.ref b) := fun z => h (Value.ref.inj z)
theorem w_hand (h : E_BadHand ≠ E_BadHouse) : W12 E_BadHouse E_BadHand E_BadLaying E_BadNote (.ref E_BadHand) = some 1 := by unfold W12; rw [if_neg (ref_ne h), if_pos rfl]
theorem w_laying (h : E_BadLaying ≠ E_BadHouse) (h2 : E_BadLaying ≠ E_BadHand) : W12 E_BadHouse E_BadHand E_BadLaying E_BadNote (.ref E_BadLaying) = some 2 := by unfold W12; rw [if_neg (ref_ne h), if_neg (ref_ne h2), if_pos rfl]
theorem w_note (h : E_BadNote ≠ E_BadHouse) (h2 : E_BadNote ≠ E_BadHand) (h3 : E_BadNote ≠ E_BadLaying) : W12 E_BadHouse E_BadHand E_BadLaying E_BadNote (.ref E_BadNote) = some 3 := by unfold W12; rw [if_neg (ref_ne h), if_neg (ref_ne h2), if_neg (ref_ne h3), if_pos rfl]
theorem m_met {K : PySem.W.Frag} {mg : Str → Option Value} (R : Rx K mg E_BadHand E_BadHouse E_BadLaying E_BadNote E_MeldError) (h3 : 3 ≤ m) (hm : m ≤ 13) (h1 : 1 ≤ c) (hc : c ≤ 4) (w : Nat) (hw : w < 7) : M__law_met C E_BadHand E_BadHouse E_BadLaying E_BadNote E_MeldError [hs C m c, .d (.int (w : Int))] = rt (.d (.int (due w))) := by
  have wt : ∀ k : Int, e2 (gEq false) (eVar 1) (eC (.int k)) [some (hs C m c), some (.d (.int (w : Int))), none] = rt (.d (.bool ((w : Int) == k))) := fun k => (e2_is (x := .d (.int (w : Int))) (y := .d (.int k)) rfl rfl).trans (gEq_int _ _)
  have no : ∀ k : Int, (w : Int) ≠ k → e2 (gEq false) (eVar 1) (eC (.int k)) [some (hs C m c), some (.d (.int (w : Int))), none] = rt (.d (.bool false)) := fun k h => by rw [wt k, beq_eq_false_iff_ne.mpr h]
  have yes : ∀ k : Int, (w : Int) = k → e2 (gEq false) (eVar 1) (eC (.int k)) [some (hs C m c), some (.d (.int (w : Int))), none] = rt (.d (.bool true)) := fun k h => by rw [wt k, h]; simp
  unfold M__law_met F__law_met
  refine mir_is (x := .d (.int (due w))) (sq_rt ?_)
  have hcases : w = 0 ∨ w = 1 ∨ w = 2 ∨ w = 3 ∨ w = 4 ∨ w = 5 ∨ w = 6 := by lia
  rcases hcases with rfl | rfl | rfl | rfl | rfl | rfl | rfl
  · refine tryR_er (ifY (tst_is (yes 0 rfl)) (drop_er (c := .ref E_BadHouse) ?_)) (w_house E_BadHand E_BadHouse E_BadLaying E_BadNote)
    rfl
  · refine tryR_er (ifF (tst_is (no 0 (by decide))) (ifY (tst_is (yes 1 rfl)) (drop_er (callX_is (a3_is (x := hs C m c) (y := .new [pr (1, 0)]) (z := .d (.int 3)) rfl rfl rfl) rfl rfl (m_helpersN C E_BadHand (ps := [(1, 0)]) (by decide) ?_))))) (w_hand E_BadHand E_BadHouse E_BadLaying E_BadNote (kit_ne R.q_BadHand_BadHouse))
    unfold handOk jok; simp
  · refine tryR_er (ifF (tst_is (no 0 (by decide))) (ifF (tst_is (no 1 (by decide))) (ifY (tst_is (yes 2 rfl)) (drop_er (callX_is (a4x (x := hs C m c) (y := .new [pr (2, 0), pr (1, 0)]) (z := .d (.int 0)) (u := .new []) rfl rfl rfl rfl) rfl rfl (m_leftN C E_BadHand E_BadLaying (ps := [(2, 0), (1, 0)]) (by decide) ?_ _)))))) (w_hand E_BadHand E_BadHouse E_BadLaying E_BadNote (kit_ne R.q_BadHand_BadHouse))
    have o : inOrd [(2, 0), (1, 0)] = false := by decide +kernel
    unfold handOk; rw [o]; simp
  · refine tryR_er (ifF (tst_is (no 0 (by decide))) (ifF (tst_is (no 1 (by decide))) (ifF (tst_is (no 2 (by decide))) (ifY (tst_is (yes 3 rfl)) (drop_er (callX_is (a2_is (x := hs C m c) (y := .d (rn 0 1 2)) rfl rfl) rfl rfl ?_)))))) (w_laying E_BadHand E_BadHouse E_BadLaying E_BadNote (kit_ne R.q_BadLaying_BadHouse) (kit_ne R.q_BadLaying_BadHand))
    refine (m_tiles_run C E_BadLaying m c 0 1 2 (by decide) (by decide)).trans ?_
    rw [if_neg]
    unfold runOk; simp
  · exact tryR_er (ifF (tst_is (no 0 (by decide))) (ifF (tst_is (no 1 (by decide))) (ifF (tst_is (no 2 (by decide))) (ifF (tst_is (no 3 (by decide))) (ifY (tst_is (yes 4 rfl)) (drop_er (callX_is (a4x (x := hs C m c) (y := .new [pr (1, 0), pr (2, 0)]) (z := .d (.int 0)) (u := .new [rn 0 1 3]) rfl rfl rfl rfl) rfl rfl (m_worthB C E_BadHand E_BadLaying (by lia) (by lia)))))))))
      (w_laying E_BadHand E_BadHouse E_BadLaying E_BadNote (kit_ne R.q_BadLaying_BadHouse) (kit_ne R.q_BadLaying_BadHand))
  · exact tryR_er (ifF (tst_is (no 0 (by decide))) (ifF (tst_is (no 1 (by decide))) (ifF (tst_is (no 2 (by decide))) (ifF (tst_is (no 3 (by decide))) (ifF (tst_is (no 4 (by decide))) (ifY (tst_is (yes 5 rfl)) (drop_er (callX_is (a2_is (x := hs C m c) (y := .d (.str "3")) rfl rfl) rfl rfl (read_3 C E_BadHand E_BadNote hm hc))))))))) (w_note E_BadHand E_BadHouse E_BadLaying E_BadNote (kit_ne R.q_BadNote_BadHouse) (kit_ne R.q_BadNote_BadHand) (kit_ne R.q_BadNote_BadLaying))
  · exact tryR_er (ifF (tst_is (no 0 (by decide))) (ifF (tst_is (no 1 (by decide))) (ifF (tst_is (no 2 (by decide))) (ifF (tst_is (no 3 (by decide))) (ifF (tst_is (no 4 (by decide))) (ifF (tst_is (no 5 (by decide))) (drop_er (callX_is (a2_is (x := hs C m c) (y := .d (.str "1a 1a 1a")) rfl rfl) rfl rfl (read_1a C E_BadHand E_BadNote hm hc (by lia) h1))))))))) (w_note E_BadHand E_BadHouse E_BadLaying E_BadNote (kit_ne R.q_BadNote_BadHouse) (kit_ne R.q_BadNote_BadHand) (kit_ne R.q_BadNote_BadLaying))
end
theorem math {mg : Str → Option Value} (K : PySem.W.Frag) (C E_BadHand E_BadHouse E_BadLaying E_BadNote E_MeldError : Addr) (R : Rx K mg E_BadHand E_BadHouse E_BadLaying E_BadNote E_MeldError) (ns : List Int) (_ : ns.length ≤ 63) : M_law K C E_BadHand E_BadHouse E_BadLaying E_BadNote E_MeldError [.scr K ns] = rt (.d (.bool true)) := by
  obtain ⟨m', c', eh, g1, g2, g3, g4⟩ := m_house K ns
  obtain ⟨m, rfl⟩ := Int.eq_ofNat_of_zero_le (show 0 ≤ m' by lia)
  obtain ⟨c, rfl⟩ := Int.eq_ofNat_of_zero_le (show 0 ≤ c' by lia)
  obtain ⟨f, hf⟩ : ∃ f, f = cellAt ns 20 % 7 := ⟨_, rfl⟩
  have f0 : 0 ≤ f := by rw [hf]; exact Int.emod_nonneg _ (by decide)
  unfold M_law
  refine mir_is (x := .d (.bool true)) ?_
  unfold F_law
  refine sqN (δ' := [some (.scr K ns), some (.d (.int (m : Int))), some (.d (.int (c : Int))), none, none, none, none]) (tg_is (x := .d (.tuple [.int (m : Int), .int (c : Int)])) (call_is (a1_is rfl) rfl rfl eh) rfl rfl) ?_
  refine sqN (δ' := [some (.scr K ns), some (.d (.int (m : Int))), some (.d (.int (c : Int))), some (hs C m c), none, none, none]) (setN (mkE (m := (m : Int)) (c := (c : Int)) rfl rfl g1 g2 g3 g4) rfl rfl) ?_
  refine sqN (δ' := [some (.scr K ns), some (.d (.int (m : Int))), some (.d (.int (c : Int))), some (hs C m c), some (.d (.int f)), none, none]) (setN (x := .d (.int f)) ((e2_is (x := .d (.int (cellAt ns 20))) (y := .d (.int 7)) (cellE (K := K) (ns := ns) rfl rfl (by decide)) rfl).trans (by rw [gMod_int (by decide), hf])) rfl rfl) ?_
  refine forN (I := fun δ => ∃ x5 x6, δ = [some (.scr K ns), some (.d (.int (m : Int))), some (.d (.int (c : Int))), some (hs C m c), some (.d (.int f)), x5, x6]) (xs := runI 0 7) ((iR1_is (j := 7) (a1_is rfl) (by decide) (by decide)).trans rfl) ⟨none, none, rfl⟩ (fun x hx δ hI => ?_) fun δ hI => ret_is rfl
  obtain ⟨x5, x6, rfl⟩ := hI
  obtain ⟨k, _, rfl⟩ := runI_mem hx
  obtain ⟨w, hw⟩ := Int.eq_ofNat_of_zero_le (Int.emod_nonneg (f + (0 + (k : Int))) (show (7 : Int) ≠ 0 by decide))
  have hw7 : w < 7 := by have := Int.emod_lt_of_pos (f + (0 + (k : Int))) (show (0 : Int) < 7 by decide); lia
  refine ⟨[some (.scr K ns), some (.d (.int (m : Int))), some (.d (.int (c : Int))), some (hs C m c), some (.d (.int f)), some (.d (.int (0 + (k : Int)))), some (.d (.int (w : Int)))], ?_, _, _, rfl⟩
  refine sqN (δ' := [some (.scr K ns), some (.d (.int (m : Int))), some (.d (.int (c : Int))), some (hs C m c), some (.d (.int f)), some (.d (.int (0 + (k : Int)))), some (.d (.int (w : Int)))]) (setN (x := .d (.int (w : Int))) ((e2_is (x := .d (.int (f + (0 + (k : Int))))) (y := .d (.int 7)) ((e2_is (x := .d (.int f)) (y := .d (.int (0 + (k : Int)))) rfl rfl).trans (gP3_int _ _)) rfl).trans (by rw [gMod_int (by decide), hw])) rfl rfl) ?_
  have hmet := m_met C E_BadHand E_BadHouse E_BadLaying E_BadNote E_MeldError R (m := m) (c := c) (by lia) (by lia) (by lia) (by lia) w hw7
  refine ifF (tst_is ((e2_is (x := .d (.int (due w))) (y := .d (.int (due w))) (call_is (a2_is (x := hs C m c) (y := .d (.int (w : Int))) rfl rfl) rfl rfl hmet) ((e2_is (x := .new (([0, 1, 1, 2, 2, 3, 3] : List Int).map PyData.int)) (y := .d (.int (w : Int))) rfl rfl).trans (gIx_new (atI_map' hw7 0)))).trans ?_)) rfl
  show rt (DV.d (.bool (!PyData.eqv (.int (due w)) (.int (due w))))) = _
  rw [eqv_ii, decide_eq_true rfl]
  rfl
end K12
set_option Elab.async false
set_option linter.all false
set_option maxRecDepth 100000
set_option maxHeartbeats 1000000
set_option autoImplicit false
namespace K12
open PySem PySem.Spec L2 L3 LW
open PyProof.Rows hiding St
theorem len1 {us : List Value} (h : us.length = 1) : ∃ a0, us = [a0] := match us, h with | [a0], _ => ⟨a0, rfl⟩
theorem len2 {us : List Value} (h : us.length = 2) : ∃ a0 a1, us = [a0, a1] := match us, h with | [a0, a1], _ => ⟨a0, a1, rfl⟩
theorem len3 {us : List Value} (h : us.length = 3) : ∃ a0 a1 a2, us = [a0, a1, a2] := match us, h with | [a0, a1, a2], _ => ⟨a0, a1, a2, rfl⟩
theorem len4 {us : List Value} (h : us.length = 4) : ∃ a0 a1 a2 a3, us = [a0, a1, a2, a3] := match us, h with | [a0, a1, a2, a3], _ => ⟨a0, a1, a2, a3, rfl⟩
noncomputable abbrev sInit : Stmt := inClass (top 15) 0
theorem scI : FnScope ["self", "most", "colours"] ["self", "most", "colours"] (defScope sInit) := ⟨rfl, rfl, rfl, by decide +kernel, rfl, by decide +kernel, by decide +kernel⟩
section
variable {P : Program} {w : World} {K : PySem.W.Frag} {mg : Str → Option Value} {base : Heap}
theorem rs_init {H : Hp} {p : V} {m c : Int} : RS [] [] H [some p, some (.int m), some (.int c)] [none, some (.d (.int m)), some (.d (.int c))] := by
  refine ⟨rfl, fun a ha => (nomatch ha), fun a ha => (nomatch ha), fun i x h => ?_, fun i j xs ys v h1 => ?_⟩
  · match i with
    | 0 => cases h
    | 1 => cases h; exact ⟨_, rfl, fun _ => nofun, .int m⟩
    | 2 => cases h; exact ⟨_, rfl, fun _ => nofun, .int c⟩
    | i + 3 => simp at h
  · match i with
    | 0 => cases h1
    | 1 => cases h1
    | 2 => cases h1
    | i + 3 => simp at h1
theorem ok_init {f C CB : Addr} {fd : FuncData} (Fu : Fun K "__init__" "House.__init__" sInit f fd) (T : Tx K mg C) (O : Xc K mg "BadHouse" CB) : FnOk P w K mg base (CXR P w) 1 f fd ["self", "most", "colours"] (spI C CB good "most" "colours") := by
  obtain ⟨oc, od, kV, doc, pm, an, cdv, ct, osl, rfl, lk, hcd⟩ := Fu.ex
  refine fn_of (k := 0) lk hcd scI (fun vs H Q E h => ?_) fun A outer s H vs Q E hr h => ?_
  · obtain ⟨p, dx, m, c, rfl, _⟩ := h
    rfl
  · obtain ⟨p, dx, m, c, rfl, hp, k⟩ := h
    have hu := hu64 hr
    have mk : Makes (cxOf (CXR P w) P w K mg base ["self", "most", "colours"] "House.__init__" (defScope sInit) f cdv A outer s H E) E := ⟨hr.hd, fun pins σ H1 s1 h1 e cls vs I hm hE => xe_made I hm hE⟩
    refine ⟨_, pss_cons (ps_if (pb_not (pb_chain (E := E0) (ov_leX hu) (ov_leX hu) (px_gi T.i_LEAST_NUMBERS) (px_var 1 (pv 1)) (px_gi T.i_MOST_NUMBERS))) (pss_one (ps_raise mk O)) pss_nil)
      (pss_cons (ps_if (pb_not (pb_chain (E := E0) (ov_leX hu) (ov_leX hu) (px_gi T.i_LEAST_COLOURS) (px_var 2 (pv 2)) (px_gi T.i_MOST_COLOURS))) (pss_one (ps_raise mk O)) pss_nil)
      (pss_cons (ps_fld (pv 0) (pv 1) rfl) (pss_one (ps_fld (pv 0) (pv 2) rfl)))), ?_⟩
    refine ⟨[], [], _, .ok (!(decide (3 ≤ m) && decide (m ≤ 13))), rs_init, ?_, fun H1 s1 => ?_⟩
    · unfold bNot eCh
      by_cases h3 : 3 ≤ m <;> by_cases h13 : m ≤ 13 <;> simp [eC, eVar, rt, bd, op, tru, h3, h13]
    by_cases g1 : (decide (3 ≤ m) && decide (m ≤ 13)) = true
    · rw [g1]
      refine iteF ?_
      refine ⟨[], [], _, .ok (!(decide (1 ≤ c) && decide (c ≤ 4))), rs_init, ?_, fun H2 s2 => ?_⟩
      · unfold bNot eCh
        by_cases h3 : 1 ≤ c <;> by_cases h13 : c ≤ 4 <;> simp [eC, eVar, rt, bd, op, tru, h3, h13]
      have kk := k H2 (s1.trans s2)
      by_cases g2 : (decide (1 ≤ c) && decide (c ≤ 4)) = true
      · rw [g2]
        refine iteF ?_
        rw [if_pos (by unfold good; rw [g1, g2]; rfl)] at kk
        refine ⟨_, rfl, _, rfl, p, C, dx, [], rfl, s2 _ _ (s1 _ _ hp), T.cl, T.n_most, by decide, ?_⟩
        exact ⟨_, rfl, _, rfl, p, C, dx, _, rfl, upd_same, T.cl, T.n_colours, by show 1 < 1000; decide, kk⟩
      · have g2' : (decide (1 ≤ c) && decide (c ≤ 4)) = false := by simpa using g2
        rw [g2']
        refine iteT ?_
        rw [if_neg (by unfold good; rw [g1, g2']; simp)] at kk
        exact kk
    · have g1' : (decide (3 ≤ m) && decide (m ≤ 13)) = false := by simpa using g1
      rw [g1']
      refine iteT ?_
      have kk := k H1 s1
      rw [if_neg (by unfold good; rw [g1']; simp)] at kk
      exact kk
end
theorem df_mk {K : PySem.W.Frag} {h : Heap} {mg : Str → Option Value} {x : Str} {st : Stmt} {ps : List Str} {f : Addr} {oc : Value} {od an : Option Addr} {osl : Array (Option Value)} {kV doc pm cdv ct : Value} (X : K.In h) (G : h.Ns mainGlobals mg) (a : PySem.W.nsIn K mainGlobals x = some (some (.ref f)))
    (l : K.lookup f = some ⟨oc, od, .func (PySem.W.fnOf x x (defArgs st) (defBody st) (defScope st) .none kV doc pm an cdv ct), osl⟩) (c : PySem.W.codeIn K cdv x = true) (k : PySem.W.keepIn K (.ref f) = true)
    (hb : ∀ (kV doc pm : Value) (an : Option Addr) (cdv ct : Value) (us : List Value), us.length = ps.length → bindArgs (PySem.W.fnOf x x (defArgs st) (defBody st) (defScope st) .none kV doc pm an cdv ct) ⟨us, []⟩ = pure (ps.zip us)) : Df K mg x st ps :=
  ⟨f, _, fun_mk l c k, PySem.W.mg_of X G a, (fun_mk l c k).binds hb⟩
theorem int_mk {K : PySem.W.Frag} {h : Heap} {mg : Str → Option Value} {x : Str} {i : Int} {t : Tok} (X : K.In h) (G : h.Ns mainGlobals mg) (a : PySem.W.nsIn K mainGlobals x = some (some (.int i t))) : ∃ t, mg x = some (.int i t) := ⟨t, PySem.W.mg_of X G a⟩
theorem str_mk {K : PySem.W.Frag} {h : Heap} {mg : Str → Option Value} {x z : Str} {t : Tok} (X : K.In h) (G : h.Ns mainGlobals mg) (a : PySem.W.nsIn K mainGlobals x = some (some (.str z t))) : ∃ t, mg x = some (.str z t) := ⟨t, PySem.W.mg_of X G a⟩
theorem xc_mk {K : PySem.W.Frag} {h : Heap} {mg : Str → Option Value} {x : Str} {C : Addr} (X : K.In h) (G : h.Ns mainGlobals mg) (a : PySem.W.nsIn K mainGlobals x = some (some (.ref C))) (e : PySem.W.excIn K C [.type "ValueError", .type "Exception", .type "BaseException", .type "object"] "ValueError.__new__" = true) : Xc K mg x C := ⟨PySem.W.mg_of X G a, e⟩
theorem bd_is_tile (kV doc pm : Value) (an : Option Addr) (cdv ct : Value) (us : List Value) (hl : us.length = (["house", "tile"] : List Str).length) : bindArgs (PySem.W.fnOf "is_tile" "is_tile" (defArgs s_is_tile) (defBody s_is_tile) (defScope s_is_tile) .none kV doc pm an cdv ct) ⟨us, []⟩ = pure ((["house", "tile"] : List Str).zip us) := by obtain ⟨a0, a1, rfl⟩ := len2 hl; rfl
theorem bd_all_tiles (kV doc pm : Value) (an : Option Addr) (cdv ct : Value) (us : List Value) (hl : us.length = (["house"] : List Str).length) : bindArgs (PySem.W.fnOf "all_tiles" "all_tiles" (defArgs s_all_tiles) (defBody s_all_tiles) (defScope s_all_tiles) .none kV doc pm an cdv ct) ⟨us, []⟩ = pure ((["house"] : List Str).zip us) := by obtain ⟨a0, rfl⟩ := len1 hl; rfl
theorem bd_is_in_order (kV doc pm : Value) (an : Option Addr) (cdv ct : Value) (us : List Value) (hl : us.length = (["row"] : List Str).length) : bindArgs (PySem.W.fnOf "is_in_order" "is_in_order" (defArgs s_is_in_order) (defBody s_is_in_order) (defScope s_is_in_order) .none kV doc pm an cdv ct) ⟨us, []⟩ = pure ((["row"] : List Str).zip us) := by obtain ⟨a0, rfl⟩ := len1 hl; rfl
theorem bd_is_hand (kV doc pm : Value) (an : Option Addr) (cdv ct : Value) (us : List Value) (hl : us.length = (["house", "hand", "jokers"] : List Str).length) : bindArgs (PySem.W.fnOf "is_hand" "is_hand" (defArgs s_is_hand) (defBody s_is_hand) (defScope s_is_hand) .none kV doc pm an cdv ct) ⟨us, []⟩ = pure ((["house", "hand", "jokers"] : List Str).zip us) := by obtain ⟨a0, a1, a2, rfl⟩ := len3 hl; rfl
theorem bd_check_hand (kV doc pm : Value) (an : Option Addr) (cdv ct : Value) (us : List Value) (hl : us.length = (["house", "hand", "jokers"] : List Str).length) : bindArgs (PySem.W.fnOf "check_hand" "check_hand" (defArgs s_check_hand) (defBody s_check_hand) (defScope s_check_hand) .none kV doc pm an cdv ct) ⟨us, []⟩ = pure ((["house", "hand", "jokers"] : List Str).zip us) := by obtain ⟨a0, a1, a2, rfl⟩ := len3 hl; rfl
theorem bd_is_run (kV doc pm : Value) (an : Option Addr) (cdv ct : Value) (us : List Value) (hl : us.length = (["house", "colour", "first", "size"] : List Str).length) : bindArgs (PySem.W.fnOf "is_run" "is_run" (defArgs s_is_run) (defBody s_is_run) (defScope s_is_run) .none kV doc pm an cdv ct) ⟨us, []⟩ = pure ((["house", "colour", "first", "size"] : List Str).zip us) := by obtain ⟨a0, a1, a2, a3, rfl⟩ := len4 hl; rfl
theorem bd_is_group (kV doc pm : Value) (an : Option Addr) (cdv ct : Value) (us : List Value) (hl : us.length = (["house", "number", "colours"] : List Str).length) : bindArgs (PySem.W.fnOf "is_group" "is_group" (defArgs s_is_group) (defBody s_is_group) (defScope s_is_group) .none kV doc pm an cdv ct) ⟨us, []⟩ = pure ((["house", "number", "colours"] : List Str).zip us) := by obtain ⟨a0, a1, a2, rfl⟩ := len3 hl; rfl
theorem bd_is_meld (kV doc pm : Value) (an : Option Addr) (cdv ct : Value) (us : List Value) (hl : us.length = (["house", "meld"] : List Str).length) : bindArgs (PySem.W.fnOf "is_meld" "is_meld" (defArgs s_is_meld) (defBody s_is_meld) (defScope s_is_meld) .none kV doc pm an cdv ct) ⟨us, []⟩ = pure ((["house", "meld"] : List Str).zip us) := by obtain ⟨a0, a1, rfl⟩ := len2 hl; rfl
theorem bd_tiles_of (kV doc pm : Value) (an : Option Addr) (cdv ct : Value) (us : List Value) (hl : us.length = (["house", "meld"] : List Str).length) : bindArgs (PySem.W.fnOf "tiles_of" "tiles_of" (defArgs s_tiles_of) (defBody s_tiles_of) (defScope s_tiles_of) .none kV doc pm an cdv ct) ⟨us, []⟩ = pure ((["house", "meld"] : List Str).zip us) := by obtain ⟨a0, a1, rfl⟩ := len2 hl; rfl
theorem bd_total (kV doc pm : Value) (an : Option Addr) (cdv ct : Value) (us : List Value) (hl : us.length = (["tiles"] : List Str).length) : bindArgs (PySem.W.fnOf "total" "total" (defArgs s_total) (defBody s_total) (defScope s_total) .none kV doc pm an cdv ct) ⟨us, []⟩ = pure ((["tiles"] : List Str).zip us) := by obtain ⟨a0, rfl⟩ := len1 hl; rfl
theorem bd_lay_out (kV doc pm : Value) (an : Option Addr) (cdv ct : Value) (us : List Value) (hl : us.length = (["tiles", "jokers", "wanted"] : List Str).length) : bindArgs (PySem.W.fnOf "lay_out" "lay_out" (defArgs s_lay_out) (defBody s_lay_out) (defScope s_lay_out) .none kV doc pm an cdv ct) ⟨us, []⟩ = pure ((["tiles", "jokers", "wanted"] : List Str).zip us) := by obtain ⟨a0, a1, a2, rfl⟩ := len3 hl; rfl
theorem bd_tiles_of_laying (kV doc pm : Value) (an : Option Addr) (cdv ct : Value) (us : List Value) (hl : us.length = (["house", "laying"] : List Str).length) : bindArgs (PySem.W.fnOf "tiles_of_laying" "tiles_of_laying" (defArgs s_tiles_of_laying) (defBody s_tiles_of_laying) (defScope s_tiles_of_laying) .none kV doc pm an cdv ct) ⟨us, []⟩ = pure ((["house", "laying"] : List Str).zip us) := by obtain ⟨a0, a1, rfl⟩ := len2 hl; rfl
theorem bd_left (kV doc pm : Value) (an : Option Addr) (cdv ct : Value) (us : List Value) (hl : us.length = (["house", "hand", "jokers", "laying"] : List Str).length) : bindArgs (PySem.W.fnOf "left" "left" (defArgs s_left) (defBody s_left) (defScope s_left) .none kV doc pm an cdv ct) ⟨us, []⟩ = pure ((["house", "hand", "jokers", "laying"] : List Str).zip us) := by obtain ⟨a0, a1, a2, a3, rfl⟩ := len4 hl; rfl
theorem bd_worth (kV doc pm : Value) (an : Option Addr) (cdv ct : Value) (us : List Value) (hl : us.length = (["house", "hand", "jokers", "laying"] : List Str).length) : bindArgs (PySem.W.fnOf "worth" "worth" (defArgs s_worth) (defBody s_worth) (defScope s_worth) .none kV doc pm an cdv ct) ⟨us, []⟩ = pure ((["house", "hand", "jokers", "laying"] : List Str).zip us) := by obtain ⟨a0, a1, a2, a3, rfl⟩ := len4 hl; rfl
theorem bd_tile_word (kV doc pm : Value) (an : Option Addr) (cdv ct : Value) (us : List Value) (hl : us.length = (["tile"] : List Str).length) : bindArgs (PySem.W.fnOf "tile_word" "tile_word" (defArgs s_tile_word) (defBody s_tile_word) (defScope s_tile_word) .none kV doc pm an cdv ct) ⟨us, []⟩ = pure ((["tile"] : List Str).zip us) := by obtain ⟨a0, rfl⟩ := len1 hl; rfl
theorem bd_shown (kV doc pm : Value) (an : Option Addr) (cdv ct : Value) (us : List Value) (hl : us.length = (["house", "hand", "jokers"] : List Str).length) : bindArgs (PySem.W.fnOf "shown" "shown" (defArgs s_shown) (defBody s_shown) (defScope s_shown) .none kV doc pm an cdv ct) ⟨us, []⟩ = pure ((["house", "hand", "jokers"] : List Str).zip us) := by obtain ⟨a0, a1, a2, rfl⟩ := len3 hl; rfl
theorem bd_read (kV doc pm : Value) (an : Option Addr) (cdv ct : Value) (us : List Value) (hl : us.length = (["house", "text"] : List Str).length) : bindArgs (PySem.W.fnOf "read" "read" (defArgs s_read) (defBody s_read) (defScope s_read) .none kV doc pm an cdv ct) ⟨us, []⟩ = pure ((["house", "text"] : List Str).zip us) := by obtain ⟨a0, a1, rfl⟩ := len2 hl; rfl
theorem bd_helpers (kV doc pm : Value) (an : Option Addr) (cdv ct : Value) (us : List Value) (hl : us.length = (["house", "hand", "jokers"] : List Str).length) : bindArgs (PySem.W.fnOf "helpers" "helpers" (defArgs s_helpers) (defBody s_helpers) (defScope s_helpers) .none kV doc pm an cdv ct) ⟨us, []⟩ = pure ((["house", "hand", "jokers"] : List Str).zip us) := by obtain ⟨a0, a1, a2, rfl⟩ := len3 hl; rfl
theorem bd__law_cell_at (kV doc pm : Value) (an : Option Addr) (cdv ct : Value) (us : List Value) (hl : us.length = (["script", "k"] : List Str).length) : bindArgs (PySem.W.fnOf "_law_cell_at" "_law_cell_at" (defArgs s__law_cell_at) (defBody s__law_cell_at) (defScope s__law_cell_at) .none kV doc pm an cdv ct) ⟨us, []⟩ = pure ((["script", "k"] : List Str).zip us) := by obtain ⟨a0, a1, rfl⟩ := len2 hl; rfl
theorem bd__law_mix (kV doc pm : Value) (an : Option Addr) (cdv ct : Value) (us : List Value) (hl : us.length = (["cell", "k", "many"] : List Str).length) : bindArgs (PySem.W.fnOf "_law_mix" "_law_mix" (defArgs s__law_mix) (defBody s__law_mix) (defScope s__law_mix) .none kV doc pm an cdv ct) ⟨us, []⟩ = pure ((["cell", "k", "many"] : List Str).zip us) := by obtain ⟨a0, a1, a2, rfl⟩ := len3 hl; rfl
theorem bd__law_house_by (kV doc pm : Value) (an : Option Addr) (cdv ct : Value) (us : List Value) (hl : us.length = (["script"] : List Str).length) : bindArgs (PySem.W.fnOf "_law_house_by" "_law_house_by" (defArgs s__law_house_by) (defBody s__law_house_by) (defScope s__law_house_by) .none kV doc pm an cdv ct) ⟨us, []⟩ = pure ((["script"] : List Str).zip us) := by obtain ⟨a0, rfl⟩ := len1 hl; rfl
theorem bd__law_met (kV doc pm : Value) (an : Option Addr) (cdv ct : Value) (us : List Value) (hl : us.length = (["house", "way"] : List Str).length) : bindArgs (PySem.W.fnOf "_law_met" "_law_met" (defArgs s__law_met) (defBody s__law_met) (defScope s__law_met) .none kV doc pm an cdv ct) ⟨us, []⟩ = pure ((["house", "way"] : List Str).zip us) := by obtain ⟨a0, a1, rfl⟩ := len2 hl; rfl
theorem bd__law_which (kV doc pm : Value) (an : Option Addr) (cdv ct : Value) (us : List Value) (hl : us.length = (["e"] : List Str).length) : bindArgs (PySem.W.fnOf "_law_which" "_law_which" (defArgs s__law_which) (defBody s__law_which) (defScope s__law_which) .none kV doc pm an cdv ct) ⟨us, []⟩ = pure ((["e"] : List Str).zip us) := by obtain ⟨a0, rfl⟩ := len1 hl; rfl
theorem bd_init (kV doc pm : Value) (an : Option Addr) (cdv ct : Value) (us : List Value) (hl : us.length = (["self", "most", "colours"] : List Str).length) : bindArgs (PySem.W.fnOf "__init__" "House.__init__" (defArgs sInit) (defBody sInit) (defScope sInit) .none kV doc pm an cdv ct) ⟨us, []⟩ = pure ((["self", "most", "colours"] : List Str).zip us) := by obtain ⟨a0, a1, a2, rfl⟩ := len3 hl; rfl
noncomputable def spLaw (K : PySem.W.Frag) : Sp := fun vs H Q _ => ∃ (a : Addr) (ns : List Int), vs = [.ref a] ∧ SqL K H a (ns.map V.int) ∧ ns.length ≤ 63 ∧ ∀ H', Q (.bl true) H'
theorem law_ok {P : Program} {w : World} {K : PySem.W.Frag} {mg : Str → Option Value} {base : Heap} {C E_BadHand E_BadHouse E_BadLaying E_BadNote E_MeldError fI : Addr} {fdI : FuncData} (T : Tx K mg C) (R : Rx K mg E_BadHand E_BadHouse E_BadLaying E_BadNote E_MeldError) (OB : Xc K mg "BadHouse" E_BadHouse) (hM : Mk K C fI) (FI : Fun K "__init__" "House.__init__" sInit fI fdI) (hC : mg "House" = some (.ref C))
    (D_is_tile : Df K mg "is_tile" s_is_tile ["house", "tile"]) (D_all_tiles : Df K mg "all_tiles" s_all_tiles ["house"]) (D_is_in_order : Df K mg "is_in_order" s_is_in_order ["row"]) (D_is_hand : Df K mg "is_hand" s_is_hand ["house", "hand", "jokers"]) (D_check_hand : Df K mg "check_hand" s_check_hand ["house", "hand", "jokers"]) (D_is_run : Df K mg "is_run" s_is_run ["house", "colour", "first", "size"]) (D_is_group : Df K mg "is_group" s_is_group ["house", "number", "colours"]) (D_is_meld : Df K mg "is_meld" s_is_meld ["house", "meld"]) (D_tiles_of : Df K mg "tiles_of" s_tiles_of ["house", "meld"]) (D_total : Df K mg "total" s_total ["tiles"]) (D_lay_out : Df K mg "lay_out" s_lay_out ["tiles", "jokers", "wanted"]) (D_tiles_of_laying : Df K mg "tiles_of_laying" s_tiles_of_laying ["house", "laying"]) (D_left : Df K mg "left" s_left ["house", "hand", "jokers", "laying"]) (D_worth : Df K mg "worth" s_worth ["house", "hand", "jokers", "laying"]) (D_tile_word : Df K mg "tile_word" s_tile_word ["tile"]) (D_shown : Df K mg "shown" s_shown ["house", "hand", "jokers"]) (D_read : Df K mg "read" s_read ["house", "text"]) (D_helpers : Df K mg "helpers" s_helpers ["house", "hand", "jokers"]) (D__law_cell_at : Df K mg "_law_cell_at" s__law_cell_at ["script", "k"]) (D__law_mix : Df K mg "_law_mix" s__law_mix ["cell", "k", "many"]) (D__law_house_by : Df K mg "_law_house_by" s__law_house_by ["script"]) (D__law_met : Df K mg "_law_met" s__law_met ["house", "way"]) (D__law_which : Df K mg "_law_which" s__law_which ["e"]) {f : Addr} {fd : FuncData} (Fu : Fun K "law" "law" s_law f fd) : FnOk P w K mg base CX0 9 f fd ["script"] (sp0 1 (M_law K C E_BadHand E_BadHouse E_BadLaying E_BadNote E_MeldError)) := by
  have h_House : HsK P w K mg base C E_BadHouse := ⟨⟨fI, fdI, _, hM, ok_init FI T OB, FI.binds bd_init, hC⟩⟩
  have h_is_tile := h_is_tile (P := P) (w := w) (base := base) T R D_is_tile
  have h_all_tiles := h_all_tiles (P := P) (w := w) (base := base) T R D_all_tiles
  have h_is_in_order := h_is_in_order (P := P) (w := w) (base := base) T R D_is_in_order
  have h_is_hand := h_is_hand (P := P) (w := w) (base := base) T R D_is_hand h_is_tile h_is_in_order
  have h_check_hand := h_check_hand (P := P) (w := w) (base := base) T R D_check_hand h_is_hand
  have h_is_run := h_is_run (P := P) (w := w) (base := base) T R D_is_run h_is_tile
  have h_is_group := h_is_group (P := P) (w := w) (base := base) T R D_is_group h_is_tile
  have h_is_meld := h_is_meld (P := P) (w := w) (base := base) T R D_is_meld h_is_run h_is_group
  have h_tiles_of := h_tiles_of (P := P) (w := w) (base := base) T R D_tiles_of h_is_meld
  have h_total := h_total (P := P) (w := w) (base := base) T R D_total
  have h_lay_out := h_lay_out (P := P) (w := w) (base := base) T R D_lay_out
  have h_tiles_of_laying := h_tiles_of_laying (P := P) (w := w) (base := base) T R D_tiles_of_laying h_tiles_of h_is_in_order
  have h_left := h_left (P := P) (w := w) (base := base) T R D_left h_check_hand h_tiles_of_laying h_lay_out
  have h_worth := h_worth (P := P) (w := w) (base := base) T R D_worth h_total h_left
  have h_tile_word := h_tile_word (P := P) (w := w) (base := base) T R D_tile_word
  have h_shown := h_shown (P := P) (w := w) (base := base) T R D_shown h_check_hand h_tile_word
  have h_read := h_read (P := P) (w := w) (base := base) T R D_read h_all_tiles h_tile_word h_is_hand h_shown
  have h_helpers := h_helpers (P := P) (w := w) (base := base) T R D_helpers h_check_hand
  have h__law_cell_at := h__law_cell_at (P := P) (w := w) (base := base) T R D__law_cell_at
  have h__law_mix := h__law_mix (P := P) (w := w) (base := base) T R D__law_mix
  have h__law_house_by := h__law_house_by (P := P) (w := w) (base := base) T R D__law_house_by h__law_cell_at h__law_mix
  have h__law_met := h__law_met (P := P) (w := w) (base := base) T R D__law_met D__law_which h_House h_helpers h_left h_tiles_of h_worth h_read
  exact ok_law T R Fu h_House h__law_house_by h__law_cell_at h__law_met
theorem law_fn {P : Program} {w : World} {K : PySem.W.Frag} {mg : Str → Option Value} {base : Heap} {C E_BadHand E_BadHouse E_BadLaying E_BadNote E_MeldError : Addr} {k : Nat} {f : Addr} {fd : FuncData} {ps : List Str} (math : ∀ ns : List Int, ns.length ≤ 63 → M_law K C E_BadHand E_BadHouse E_BadLaying E_BadNote E_MeldError [.scr K ns] = rt (.d (.bool true))) (F : FnOk P w K mg base CX0 k f fd ps (sp0 1 (M_law K C E_BadHand E_BadHouse E_BadLaying E_BadNote E_MeldError))) : FnOk P w K mg base CX0 k f fd ps (spLaw K) :=
  F.imp fun vs H Q E ⟨a, ns, ev, hS, hl, hq⟩ => by
    subst ev
    refine ⟨rfl, [], [.scr K ns], _, fun a ha => (nomatch ha), .cons ⟨a, rfl, hS.imp (fun z => ⟨nofun, z⟩) fun z => z⟩ .nil, math ns hl, fun v H' _ rv => ?_⟩
    cases rv
    exact hq H'
theorem all_mk {l : PySem.W.OpenLaw} {w : World} {K : PySem.W.Frag} {h : Heap} {mg : Str → Option Value} {fa C E_BadHand E_BadHouse E_BadLaying E_BadNote E_MeldError fI f_is_tile f_all_tiles f_is_in_order f_is_hand f_check_hand f_is_run f_is_group f_is_meld f_tiles_of f_total f_lay_out f_tiles_of_laying f_left f_worth f_tile_word f_shown f_read f_helpers f__law_cell_at f__law_mix f__law_house_by f__law_met f_law f__law_which : Addr} {od_is_tile an_is_tile od_all_tiles an_all_tiles od_is_in_order an_is_in_order od_is_hand an_is_hand od_check_hand an_check_hand od_is_run an_is_run od_is_group an_is_group od_is_meld an_is_meld od_tiles_of an_tiles_of od_total an_total od_lay_out an_lay_out od_tiles_of_laying an_tiles_of_laying od_left an_left od_worth an_worth od_tile_word an_tile_word od_shown an_shown od_read an_read od_helpers an_helpers od__law_cell_at an__law_cell_at od__law_mix an__law_mix od__law_house_by an__law_house_by od__law_met an__law_met od_law an_law od__law_which an__law_which od_I an_I : Option Addr} {sl_is_tile sl_all_tiles sl_is_in_order sl_is_hand sl_check_hand sl_is_run sl_is_group sl_is_meld sl_tiles_of sl_total sl_lay_out sl_tiles_of_laying sl_left sl_worth sl_tile_word sl_shown sl_read sl_helpers sl__law_cell_at sl__law_mix sl__law_house_by sl__law_met sl_law sl__law_which sl_I : Array (Option Value)} {oc_is_tile kV_is_tile dc_is_tile pm_is_tile cd_is_tile ct_is_tile oc_all_tiles kV_all_tiles dc_all_tiles pm_all_tiles cd_all_tiles ct_all_tiles oc_is_in_order kV_is_in_order dc_is_in_order pm_is_in_order cd_is_in_order ct_is_in_order oc_is_hand kV_is_hand dc_is_hand pm_is_hand cd_is_hand ct_is_hand oc_check_hand kV_check_hand dc_check_hand pm_check_hand cd_check_hand ct_check_hand oc_is_run kV_is_run dc_is_run pm_is_run cd_is_run ct_is_run oc_is_group kV_is_group dc_is_group pm_is_group cd_is_group ct_is_group oc_is_meld kV_is_meld dc_is_meld pm_is_meld cd_is_meld ct_is_meld oc_tiles_of kV_tiles_of dc_tiles_of pm_tiles_of cd_tiles_of ct_tiles_of oc_total kV_total dc_total pm_total cd_total ct_total oc_lay_out kV_lay_out dc_lay_out pm_lay_out cd_lay_out ct_lay_out oc_tiles_of_laying kV_tiles_of_laying dc_tiles_of_laying pm_tiles_of_laying cd_tiles_of_laying ct_tiles_of_laying oc_left kV_left dc_left pm_left cd_left ct_left oc_worth kV_worth dc_worth pm_worth cd_worth ct_worth oc_tile_word kV_tile_word dc_tile_word pm_tile_word cd_tile_word ct_tile_word oc_shown kV_shown dc_shown pm_shown cd_shown ct_shown oc_read kV_read dc_read pm_read cd_read ct_read oc_helpers kV_helpers dc_helpers pm_helpers cd_helpers ct_helpers oc__law_cell_at kV__law_cell_at dc__law_cell_at pm__law_cell_at cd__law_cell_at ct__law_cell_at oc__law_mix kV__law_mix dc__law_mix pm__law_mix cd__law_mix ct__law_mix oc__law_house_by kV__law_house_by dc__law_house_by pm__law_house_by cd__law_house_by ct__law_house_by oc__law_met kV__law_met dc__law_met pm__law_met cd__law_met ct__law_met oc_law kV_law dc_law pm_law cd_law ct_law oc__law_which kV__law_which dc__law_which pm__law_which cd__law_which ct__law_which oc_I kV_I dc_I pm_I cd_I ct_I : Value} {t_LEAST_NUMBERS t_MOST_NUMBERS t_LEAST_COLOURS t_MOST_COLOURS t_MOST_TILES t_MOST_ALIKE t_MOST_JOKERS t_LEAST_SIZE t_LETTERS t_JOKER t_NOTHING : Tok} (X : K.In h) (G : h.Ns mainGlobals mg) (hfa : mg "law" = some (.ref fa))
    (a_is_tile : PySem.W.nsIn K mainGlobals "is_tile" = some (some (.ref f_is_tile)))
    (l_is_tile : K.lookup f_is_tile = some ⟨oc_is_tile, od_is_tile, .func (PySem.W.fnOf "is_tile" "is_tile" (defArgs s_is_tile) (defBody s_is_tile) (defScope s_is_tile) .none kV_is_tile dc_is_tile pm_is_tile an_is_tile cd_is_tile ct_is_tile), sl_is_tile⟩)
    (c_is_tile : PySem.W.codeIn K cd_is_tile "is_tile" = true)
    (k_is_tile : PySem.W.keepIn K (.ref f_is_tile) = true)
    (a_all_tiles : PySem.W.nsIn K mainGlobals "all_tiles" = some (some (.ref f_all_tiles)))
    (l_all_tiles : K.lookup f_all_tiles = some ⟨oc_all_tiles, od_all_tiles, .func (PySem.W.fnOf "all_tiles" "all_tiles" (defArgs s_all_tiles) (defBody s_all_tiles) (defScope s_all_tiles) .none kV_all_tiles dc_all_tiles pm_all_tiles an_all_tiles cd_all_tiles ct_all_tiles), sl_all_tiles⟩)
    (c_all_tiles : PySem.W.codeIn K cd_all_tiles "all_tiles" = true)
    (k_all_tiles : PySem.W.keepIn K (.ref f_all_tiles) = true)
    (a_is_in_order : PySem.W.nsIn K mainGlobals "is_in_order" = some (some (.ref f_is_in_order)))
    (l_is_in_order : K.lookup f_is_in_order = some ⟨oc_is_in_order, od_is_in_order, .func (PySem.W.fnOf "is_in_order" "is_in_order" (defArgs s_is_in_order) (defBody s_is_in_order) (defScope s_is_in_order) .none kV_is_in_order dc_is_in_order pm_is_in_order an_is_in_order cd_is_in_order ct_is_in_order), sl_is_in_order⟩)
    (c_is_in_order : PySem.W.codeIn K cd_is_in_order "is_in_order" = true)
    (k_is_in_order : PySem.W.keepIn K (.ref f_is_in_order) = true)
    (a_is_hand : PySem.W.nsIn K mainGlobals "is_hand" = some (some (.ref f_is_hand)))
    (l_is_hand : K.lookup f_is_hand = some ⟨oc_is_hand, od_is_hand, .func (PySem.W.fnOf "is_hand" "is_hand" (defArgs s_is_hand) (defBody s_is_hand) (defScope s_is_hand) .none kV_is_hand dc_is_hand pm_is_hand an_is_hand cd_is_hand ct_is_hand), sl_is_hand⟩)
    (c_is_hand : PySem.W.codeIn K cd_is_hand "is_hand" = true)
    (k_is_hand : PySem.W.keepIn K (.ref f_is_hand) = true)
    (a_check_hand : PySem.W.nsIn K mainGlobals "check_hand" = some (some (.ref f_check_hand)))
    (l_check_hand : K.lookup f_check_hand = some ⟨oc_check_hand, od_check_hand, .func (PySem.W.fnOf "check_hand" "check_hand" (defArgs s_check_hand) (defBody s_check_hand) (defScope s_check_hand) .none kV_check_hand dc_check_hand pm_check_hand an_check_hand cd_check_hand ct_check_hand), sl_check_hand⟩)
    (c_check_hand : PySem.W.codeIn K cd_check_hand "check_hand" = true)
    (k_check_hand : PySem.W.keepIn K (.ref f_check_hand) = true)
    (a_is_run : PySem.W.nsIn K mainGlobals "is_run" = some (some (.ref f_is_run)))
    (l_is_run : K.lookup f_is_run = some ⟨oc_is_run, od_is_run, .func (PySem.W.fnOf "is_run" "is_run" (defArgs s_is_run) (defBody s_is_run) (defScope s_is_run) .none kV_is_run dc_is_run pm_is_run an_is_run cd_is_run ct_is_run), sl_is_run⟩)
    (c_is_run : PySem.W.codeIn K cd_is_run "is_run" = true)
    (k_is_run : PySem.W.keepIn K (.ref f_is_run) = true)
    (a_is_group : PySem.W.nsIn K mainGlobals "is_group" = some (some (.ref f_is_group)))
    (l_is_group : K.lookup f_is_group = some ⟨oc_is_group, od_is_group, .func (PySem.W.fnOf "is_group" "is_group" (defArgs s_is_group) (defBody s_is_group) (defScope s_is_group) .none kV_is_group dc_is_group pm_is_group an_is_group cd_is_group ct_is_group), sl_is_group⟩)
    (c_is_group : PySem.W.codeIn K cd_is_group "is_group" = true)
    (k_is_group : PySem.W.keepIn K (.ref f_is_group) = true)
    (a_is_meld : PySem.W.nsIn K mainGlobals "is_meld" = some (some (.ref f_is_meld)))
    (l_is_meld : K.lookup f_is_meld = some ⟨oc_is_meld, od_is_meld, .func (PySem.W.fnOf "is_meld" "is_meld" (defArgs s_is_meld) (defBody s_is_meld) (defScope s_is_meld) .none kV_is_meld dc_is_meld pm_is_meld an_is_meld cd_is_meld ct_is_meld), sl_is_meld⟩)
    (c_is_meld : PySem.W.codeIn K cd_is_meld "is_meld" = true)
    (k_is_meld : PySem.W.keepIn K (.ref f_is_meld) = true)
    (a_tiles_of : PySem.W.nsIn K mainGlobals "tiles_of" = some (some (.ref f_tiles_of)))
    (l_tiles_of : K.lookup f_tiles_of = some ⟨oc_tiles_of, od_tiles_of, .func (PySem.W.fnOf "tiles_of" "tiles_of" (defArgs s_tiles_of) (defBody s_tiles_of) (defScope s_tiles_of) .none kV_tiles_of dc_tiles_of pm_tiles_of an_tiles_of cd_tiles_of ct_tiles_of), sl_tiles_of⟩)
    (c_tiles_of : PySem.W.codeIn K cd_tiles_of "tiles_of" = true)
    (k_tiles_of : PySem.W.keepIn K (.ref f_tiles_of) = true)
    (a_total : PySem.W.nsIn K mainGlobals "total" = some (some (.ref f_total)))
    (l_total : K.lookup f_total = some ⟨oc_total, od_total, .func (PySem.W.fnOf "total" "total" (defArgs s_total) (defBody s_total) (defScope s_total) .none kV_total dc_total pm_total an_total cd_total ct_total), sl_total⟩)
    (c_total : PySem.W.codeIn K cd_total "total" = true)
    (k_total : PySem.W.keepIn K (.ref f_total) = true)
    (a_lay_out : PySem.W.nsIn K mainGlobals "lay_out" = some (some (.ref f_lay_out)))
    (l_lay_out : K.lookup f_lay_out = some ⟨oc_lay_out, od_lay_out, .func (PySem.W.fnOf "lay_out" "lay_out" (defArgs s_lay_out) (defBody s_lay_out) (defScope s_lay_out) .none kV_lay_out dc_lay_out pm_lay_out an_lay_out cd_lay_out ct_lay_out), sl_lay_out⟩)
    (c_lay_out : PySem.W.codeIn K cd_lay_out "lay_out" = true)
    (k_lay_out : PySem.W.keepIn K (.ref f_lay_out) = true)
    (a_tiles_of_laying : PySem.W.nsIn K mainGlobals "tiles_of_laying" = some (some (.ref f_tiles_of_laying)))
    (l_tiles_of_laying : K.lookup f_tiles_of_laying = some ⟨oc_tiles_of_laying, od_tiles_of_laying, .func (PySem.W.fnOf "tiles_of_laying" "tiles_of_laying" (defArgs s_tiles_of_laying) (defBody s_tiles_of_laying) (defScope s_tiles_of_laying) .none kV_tiles_of_laying dc_tiles_of_laying pm_tiles_of_laying an_tiles_of_laying cd_tiles_of_laying ct_tiles_of_laying), sl_tiles_of_laying⟩)
    (c_tiles_of_laying : PySem.W.codeIn K cd_tiles_of_laying "tiles_of_laying" = true)
    (k_tiles_of_laying : PySem.W.keepIn K (.ref f_tiles_of_laying) = true)
    (a_left : PySem.W.nsIn K mainGlobals "left" = some (some (.ref f_left)))
    (l_left : K.lookup f_left = some ⟨oc_left, od_left, .func (PySem.W.fnOf "left" "left" (defArgs s_left) (defBody s_left) (defScope s_left) .none kV_left dc_left pm_left an_left cd_left ct_left), sl_left⟩)
    (c_left : PySem.W.codeIn K cd_left "left" = true)
    (k_left : PySem.W.keepIn K (.ref f_left) = true)
    (a_worth : PySem.W.nsIn K mainGlobals "worth" = some (some (.ref f_worth)))
    (l_worth : K.lookup f_worth = some ⟨oc_worth, od_worth, .func (PySem.W.fnOf "worth" "worth" (defArgs s_worth) (defBody s_worth) (defScope s_worth) .none kV_worth dc_worth pm_worth an_worth cd_worth ct_worth), sl_worth⟩)
    (c_worth : PySem.W.codeIn K cd_worth "worth" = true)
    (k_worth : PySem.W.keepIn K (.ref f_worth) = true)
    (a_tile_word : PySem.W.nsIn K mainGlobals "tile_word" = some (some (.ref f_tile_word)))
    (l_tile_word : K.lookup f_tile_word = some ⟨oc_tile_word, od_tile_word, .func (PySem.W.fnOf "tile_word" "tile_word" (defArgs s_tile_word) (defBody s_tile_word) (defScope s_tile_word) .none kV_tile_word dc_tile_word pm_tile_word an_tile_word cd_tile_word ct_tile_word), sl_tile_word⟩)
    (c_tile_word : PySem.W.codeIn K cd_tile_word "tile_word" = true)
    (k_tile_word : PySem.W.keepIn K (.ref f_tile_word) = true)
    (a_shown : PySem.W.nsIn K mainGlobals "shown" = some (some (.ref f_shown)))
    (l_shown : K.lookup f_shown = some ⟨oc_shown, od_shown, .func (PySem.W.fnOf "shown" "shown" (defArgs s_shown) (defBody s_shown) (defScope s_shown) .none kV_shown dc_shown pm_shown an_shown cd_shown ct_shown), sl_shown⟩)
    (c_shown : PySem.W.codeIn K cd_shown "shown" = true)
    (k_shown : PySem.W.keepIn K (.ref f_shown) = true)
    (a_read : PySem.W.nsIn K mainGlobals "read" = some (some (.ref f_read)))
    (l_read : K.lookup f_read = some ⟨oc_read, od_read, .func (PySem.W.fnOf "read" "read" (defArgs s_read) (defBody s_read) (defScope s_read) .none kV_read dc_read pm_read an_read cd_read ct_read), sl_read⟩)
    (c_read : PySem.W.codeIn K cd_read "read" = true)
    (k_read : PySem.W.keepIn K (.ref f_read) = true)
    (a_helpers : PySem.W.nsIn K mainGlobals "helpers" = some (some (.ref f_helpers)))
    (l_helpers : K.lookup f_helpers = some ⟨oc_helpers, od_helpers, .func (PySem.W.fnOf "helpers" "helpers" (defArgs s_helpers) (defBody s_helpers) (defScope s_helpers) .none kV_helpers dc_helpers pm_helpers an_helpers cd_helpers ct_helpers), sl_helpers⟩)
    (c_helpers : PySem.W.codeIn K cd_helpers "helpers" = true)
    (k_helpers : PySem.W.keepIn K (.ref f_helpers) = true)
    (a__law_cell_at : PySem.W.nsIn K mainGlobals "_law_cell_at" = some (some (.ref f__law_cell_at)))
    (l__law_cell_at : K.lookup f__law_cell_at = some ⟨oc__law_cell_at, od__law_cell_at, .func (PySem.W.fnOf "_law_cell_at" "_law_cell_at" (defArgs s__law_cell_at) (defBody s__law_cell_at) (defScope s__law_cell_at) .none kV__law_cell_at dc__law_cell_at pm__law_cell_at an__law_cell_at cd__law_cell_at ct__law_cell_at), sl__law_cell_at⟩)
    (c__law_cell_at : PySem.W.codeIn K cd__law_cell_at "_law_cell_at" = true)
    (k__law_cell_at : PySem.W.keepIn K (.ref f__law_cell_at) = true)
    (a__law_mix : PySem.W.nsIn K mainGlobals "_law_mix" = some (some (.ref f__law_mix)))
    (l__law_mix : K.lookup f__law_mix = some ⟨oc__law_mix, od__law_mix, .func (PySem.W.fnOf "_law_mix" "_law_mix" (defArgs s__law_mix) (defBody s__law_mix) (defScope s__law_mix) .none kV__law_mix dc__law_mix pm__law_mix an__law_mix cd__law_mix ct__law_mix), sl__law_mix⟩)
    (c__law_mix : PySem.W.codeIn K cd__law_mix "_law_mix" = true)
    (k__law_mix : PySem.W.keepIn K (.ref f__law_mix) = true)
    (a__law_house_by : PySem.W.nsIn K mainGlobals "_law_house_by" = some (some (.ref f__law_house_by)))
    (l__law_house_by : K.lookup f__law_house_by = some ⟨oc__law_house_by, od__law_house_by, .func (PySem.W.fnOf "_law_house_by" "_law_house_by" (defArgs s__law_house_by) (defBody s__law_house_by) (defScope s__law_house_by) .none kV__law_house_by dc__law_house_by pm__law_house_by an__law_house_by cd__law_house_by ct__law_house_by), sl__law_house_by⟩)
    (c__law_house_by : PySem.W.codeIn K cd__law_house_by "_law_house_by" = true)
    (k__law_house_by : PySem.W.keepIn K (.ref f__law_house_by) = true)
    (a__law_met : PySem.W.nsIn K mainGlobals "_law_met" = some (some (.ref f__law_met)))
    (l__law_met : K.lookup f__law_met = some ⟨oc__law_met, od__law_met, .func (PySem.W.fnOf "_law_met" "_law_met" (defArgs s__law_met) (defBody s__law_met) (defScope s__law_met) .none kV__law_met dc__law_met pm__law_met an__law_met cd__law_met ct__law_met), sl__law_met⟩)
    (c__law_met : PySem.W.codeIn K cd__law_met "_law_met" = true)
    (k__law_met : PySem.W.keepIn K (.ref f__law_met) = true)
    (a_law : PySem.W.nsIn K mainGlobals "law" = some (some (.ref f_law)))
    (l_law : K.lookup f_law = some ⟨oc_law, od_law, .func (PySem.W.fnOf "law" "law" (defArgs s_law) (defBody s_law) (defScope s_law) .none kV_law dc_law pm_law an_law cd_law ct_law), sl_law⟩)
    (c_law : PySem.W.codeIn K cd_law "law" = true)
    (k_law : PySem.W.keepIn K (.ref f_law) = true)
    (a__law_which : PySem.W.nsIn K mainGlobals "_law_which" = some (some (.ref f__law_which)))
    (l__law_which : K.lookup f__law_which = some ⟨oc__law_which, od__law_which, .func (PySem.W.fnOf "_law_which" "_law_which" (defArgs s__law_which) (defBody s__law_which) (defScope s__law_which) .none kV__law_which dc__law_which pm__law_which an__law_which cd__law_which ct__law_which), sl__law_which⟩)
    (c__law_which : PySem.W.codeIn K cd__law_which "_law_which" = true)
    (k__law_which : PySem.W.keepIn K (.ref f__law_which) = true)
    (aC : PySem.W.nsIn K mainGlobals "House" = some (some (.ref C)))
    (aI : PySem.W.findIn K (.ref C) "__init__" = some (some (.ref fI)))
    (iI : PySem.W.isFn K (.ref fI) = true)
    (lI : K.lookup fI = some ⟨oc_I, od_I, .func (PySem.W.fnOf "__init__" "House.__init__" (defArgs sInit) (defBody sInit) (defScope sInit) .none kV_I dc_I pm_I an_I cd_I ct_I), sl_I⟩)
    (cI : PySem.W.codeIn K cd_I "House.__init__" = true)
    (kI : PySem.W.keepIn K (.ref fI) = true)
    (pg : PySem.W.plainGet K C Str.empty = true)
    (hd : PySem.W.hasDictIn K C = true)
    (po : PySem.W.plainOver K C = true)
    (sa : PySem.W.findIn K (.ref C) "__setattr__" = some (some (.builtin "object.__setattr__")))
    (mk : PySem.W.makesIn K C = true)
    (kc : PySem.W.keepIn K (.ref C) = true)
    (n_colours : PySem.W.findIn K (.ref C) "colours" = some none)
    (n_most : PySem.W.findIn K (.ref C) "most" = some none)
    (i_LEAST_NUMBERS : PySem.W.nsIn K mainGlobals "LEAST_NUMBERS" = some (some (.int 3 t_LEAST_NUMBERS)))
    (i_MOST_NUMBERS : PySem.W.nsIn K mainGlobals "MOST_NUMBERS" = some (some (.int 13 t_MOST_NUMBERS)))
    (i_LEAST_COLOURS : PySem.W.nsIn K mainGlobals "LEAST_COLOURS" = some (some (.int 1 t_LEAST_COLOURS)))
    (i_MOST_COLOURS : PySem.W.nsIn K mainGlobals "MOST_COLOURS" = some (some (.int 4 t_MOST_COLOURS)))
    (i_MOST_TILES : PySem.W.nsIn K mainGlobals "MOST_TILES" = some (some (.int 12 t_MOST_TILES)))
    (i_MOST_ALIKE : PySem.W.nsIn K mainGlobals "MOST_ALIKE" = some (some (.int 2 t_MOST_ALIKE)))
    (i_MOST_JOKERS : PySem.W.nsIn K mainGlobals "MOST_JOKERS" = some (some (.int 2 t_MOST_JOKERS)))
    (i_LEAST_SIZE : PySem.W.nsIn K mainGlobals "LEAST_SIZE" = some (some (.int 3 t_LEAST_SIZE)))
    (i_LETTERS : PySem.W.nsIn K mainGlobals "LETTERS" = some (some (.str "abcd" t_LETTERS)))
    (i_JOKER : PySem.W.nsIn K mainGlobals "JOKER" = some (some (.str "*" t_JOKER)))
    (i_NOTHING : PySem.W.nsIn K mainGlobals "NOTHING" = some (some (.str "-" t_NOTHING)))
    (b_ValueError : PySem.W.nsIn K mainGlobals "ValueError" = some none)
    (b_all : PySem.W.nsIn K mainGlobals "all" = some none)
    (b_dict : PySem.W.nsIn K mainGlobals "dict" = some none)
    (b_isinstance : PySem.W.nsIn K mainGlobals "isinstance" = some none)
    (b_len : PySem.W.nsIn K mainGlobals "len" = some none)
    (b_list : PySem.W.nsIn K mainGlobals "list" = some none)
    (b_range : PySem.W.nsIn K mainGlobals "range" = some none)
    (b_sum : PySem.W.nsIn K mainGlobals "sum" = some none)
    (a_E_BadHand : PySem.W.nsIn K mainGlobals "BadHand" = some (some (.ref E_BadHand)))
    (a_E_BadHouse : PySem.W.nsIn K mainGlobals "BadHouse" = some (some (.ref E_BadHouse)))
    (a_E_BadLaying : PySem.W.nsIn K mainGlobals "BadLaying" = some (some (.ref E_BadLaying)))
    (a_E_BadNote : PySem.W.nsIn K mainGlobals "BadNote" = some (some (.ref E_BadNote)))
    (a_E_MeldError : PySem.W.nsIn K mainGlobals "MeldError" = some (some (.ref E_MeldError)))
    (e_E_BadHouse : PySem.W.excIn K E_BadHouse [.type "ValueError", .type "Exception", .type "BaseException", .type "object"] "ValueError.__new__" = true)
    (e_E_BadHand : PySem.W.excIn K E_BadHand [.type "ValueError", .type "Exception", .type "BaseException", .type "object"] "ValueError.__new__" = true)
    (e_E_BadLaying : PySem.W.excIn K E_BadLaying [.type "ValueError", .type "Exception", .type "BaseException", .type "object"] "ValueError.__new__" = true)
    (e_E_BadNote : PySem.W.excIn K E_BadNote [.type "ValueError", .type "Exception", .type "BaseException", .type "object"] "ValueError.__new__" = true)
    (e_E_MeldError : PySem.W.excIn K E_MeldError [.type "ValueError", .type "Exception", .type "BaseException", .type "object"] "ValueError.__new__" = true)
    (k1_BadHouse : PySem.W.findIn K (.ref E_BadHouse) "__getattribute__" = some (some (.builtin "BaseException.__getattribute__")))
    (k2_BadHouse : PySem.W.findIn K (.ref E_BadHouse) "__getattr__" = some none)
    (k3_BadHouse : PySem.W.isClsIn K E_BadHouse = true)
    (k4_BadHouse : PySem.W.findIn K (.ref E_BadHouse) "__class__" = some (some (.builtin "object.__class__")))
    (k5_BadHouse : PySem.W.specialIn K (.builtin "object.__class__") "__get__" = some (some (.builtin "getset_descriptor.__get__")))
    (k6_BadHouse : PySem.W.takesIn K (.builtin "object.__class__") = some true)
    (k7_BadHouse : PySem.W.mroIn K E_BadHouse (.type "object") = some true)
    (k8_BadHouse : PySem.W.mroIn K E_BadHouse (.type "BaseException") = some true)
    (q_BadHouse_BadHouse : PySem.W.kitOne K (.ref E_BadHouse) (.ref E_BadHouse) = some true)
    (q_BadHouse_BadHand : PySem.W.kitOne K (.ref E_BadHouse) (.ref E_BadHand) = some false)
    (q_BadHouse_BadLaying : PySem.W.kitOne K (.ref E_BadHouse) (.ref E_BadLaying) = some false)
    (q_BadHouse_BadNote : PySem.W.kitOne K (.ref E_BadHouse) (.ref E_BadNote) = some false)
    (q_BadHouse_MeldError : PySem.W.kitOne K (.ref E_BadHouse) (.ref E_MeldError) = some true)
    (q_BadHouse_ValueError : PySem.W.kitOne K (.ref E_BadHouse) (.type "ValueError") = some true)
    (k1_BadHand : PySem.W.findIn K (.ref E_BadHand) "__getattribute__" = some (some (.builtin "BaseException.__getattribute__")))
    (k2_BadHand : PySem.W.findIn K (.ref E_BadHand) "__getattr__" = some none)
    (k3_BadHand : PySem.W.isClsIn K E_BadHand = true)
    (k4_BadHand : PySem.W.findIn K (.ref E_BadHand) "__class__" = some (some (.builtin "object.__class__")))
    (k5_BadHand : PySem.W.specialIn K (.builtin "object.__class__") "__get__" = some (some (.builtin "getset_descriptor.__get__")))
    (k6_BadHand : PySem.W.takesIn K (.builtin "object.__class__") = some true)
    (k7_BadHand : PySem.W.mroIn K E_BadHand (.type "object") = some true)
    (k8_BadHand : PySem.W.mroIn K E_BadHand (.type "BaseException") = some true)
    (q_BadHand_BadHouse : PySem.W.kitOne K (.ref E_BadHand) (.ref E_BadHouse) = some false)
    (q_BadHand_BadHand : PySem.W.kitOne K (.ref E_BadHand) (.ref E_BadHand) = some true)
    (q_BadHand_BadLaying : PySem.W.kitOne K (.ref E_BadHand) (.ref E_BadLaying) = some false)
    (q_BadHand_BadNote : PySem.W.kitOne K (.ref E_BadHand) (.ref E_BadNote) = some false)
    (q_BadHand_MeldError : PySem.W.kitOne K (.ref E_BadHand) (.ref E_MeldError) = some true)
    (q_BadHand_ValueError : PySem.W.kitOne K (.ref E_BadHand) (.type "ValueError") = some true)
    (k1_BadLaying : PySem.W.findIn K (.ref E_BadLaying) "__getattribute__" = some (some (.builtin "BaseException.__getattribute__")))
    (k2_BadLaying : PySem.W.findIn K (.ref E_BadLaying) "__getattr__" = some none)
    (k3_BadLaying : PySem.W.isClsIn K E_BadLaying = true)
    (k4_BadLaying : PySem.W.findIn K (.ref E_BadLaying) "__class__" = some (some (.builtin "object.__class__")))
    (k5_BadLaying : PySem.W.specialIn K (.builtin "object.__class__") "__get__" = some (some (.builtin "getset_descriptor.__get__")))
    (k6_BadLaying : PySem.W.takesIn K (.builtin "object.__class__") = some true)
    (k7_BadLaying : PySem.W.mroIn K E_BadLaying (.type "object") = some true)
    (k8_BadLaying : PySem.W.mroIn K E_BadLaying (.type "BaseException") = some true)
    (q_BadLaying_BadHouse : PySem.W.kitOne K (.ref E_BadLaying) (.ref E_BadHouse) = some false)
    (q_BadLaying_BadHand : PySem.W.kitOne K (.ref E_BadLaying) (.ref E_BadHand) = some false)
    (q_BadLaying_BadLaying : PySem.W.kitOne K (.ref E_BadLaying) (.ref E_BadLaying) = some true)
    (q_BadLaying_BadNote : PySem.W.kitOne K (.ref E_BadLaying) (.ref E_BadNote) = some false)
    (q_BadLaying_MeldError : PySem.W.kitOne K (.ref E_BadLaying) (.ref E_MeldError) = some true)
    (q_BadLaying_ValueError : PySem.W.kitOne K (.ref E_BadLaying) (.type "ValueError") = some true)
    (k1_BadNote : PySem.W.findIn K (.ref E_BadNote) "__getattribute__" = some (some (.builtin "BaseException.__getattribute__")))
    (k2_BadNote : PySem.W.findIn K (.ref E_BadNote) "__getattr__" = some none)
    (k3_BadNote : PySem.W.isClsIn K E_BadNote = true)
    (k4_BadNote : PySem.W.findIn K (.ref E_BadNote) "__class__" = some (some (.builtin "object.__class__")))
    (k5_BadNote : PySem.W.specialIn K (.builtin "object.__class__") "__get__" = some (some (.builtin "getset_descriptor.__get__")))
    (k6_BadNote : PySem.W.takesIn K (.builtin "object.__class__") = some true)
    (k7_BadNote : PySem.W.mroIn K E_BadNote (.type "object") = some true)
    (k8_BadNote : PySem.W.mroIn K E_BadNote (.type "BaseException") = some true)
    (q_BadNote_BadHouse : PySem.W.kitOne K (.ref E_BadNote) (.ref E_BadHouse) = some false)
    (q_BadNote_BadHand : PySem.W.kitOne K (.ref E_BadNote) (.ref E_BadHand) = some false)
    (q_BadNote_BadLaying : PySem.W.kitOne K (.ref E_BadNote) (.ref E_BadLaying) = some false)
    (q_BadNote_BadNote : PySem.W.kitOne K (.ref E_BadNote) (.ref E_BadNote) = some true)
    (q_BadNote_MeldError : PySem.W.kitOne K (.ref E_BadNote) (.ref E_MeldError) = some true)
    (q_BadNote_ValueError : PySem.W.kitOne K (.ref E_BadNote) (.type "ValueError") = some true)
    (q_MeldError_BadHouse : PySem.W.kitOne K (.ref E_MeldError) (.ref E_BadHouse) = some false)
    (q_MeldError_BadHand : PySem.W.kitOne K (.ref E_MeldError) (.ref E_BadHand) = some false)
    (q_MeldError_BadLaying : PySem.W.kitOne K (.ref E_MeldError) (.ref E_BadLaying) = some false)
    (q_MeldError_BadNote : PySem.W.kitOne K (.ref E_MeldError) (.ref E_BadNote) = some false) :
    ∃ fd : FuncData, (∀ (s : Shared) (v : Value), BindsTo s fd ⟨[v], []⟩ [("script", v)]) ∧ ∀ base : Heap, K.In base → base.Ns mainGlobals mg → FnOk l.prog w K mg base CX0 9 fa fd ["script"] (spLaw K) := by
  have e := hfa.symm.trans (PySem.W.mg_of X G a_law)
  cases e
  have T : Tx K mg C := ⟨⟨pg, hd, po, sa⟩, n_colours, n_most, int_mk X G i_LEAST_NUMBERS, int_mk X G i_MOST_NUMBERS, int_mk X G i_LEAST_COLOURS, int_mk X G i_MOST_COLOURS, int_mk X G i_MOST_TILES, int_mk X G i_MOST_ALIKE, int_mk X G i_MOST_JOKERS, int_mk X G i_LEAST_SIZE, str_mk X G i_LETTERS, str_mk X G i_JOKER, str_mk X G i_NOTHING, PySem.W.mg_none_of X G b_ValueError, PySem.W.mg_none_of X G b_all, PySem.W.mg_none_of X G b_dict, PySem.W.mg_none_of X G b_isinstance, PySem.W.mg_none_of X G b_len, PySem.W.mg_none_of X G b_list, PySem.W.mg_none_of X G b_range, PySem.W.mg_none_of X G b_sum⟩
  have R : Rx K mg E_BadHand E_BadHouse E_BadLaying E_BadNote E_MeldError := ⟨xc_mk X G a_E_BadHand e_E_BadHand, xc_mk X G a_E_BadLaying e_E_BadLaying, xc_mk X G a_E_BadNote e_E_BadNote, xc_mk X G a_E_BadHouse e_E_BadHouse, xc_mk X G a_E_MeldError e_E_MeldError, ⟨k1_BadHouse, k2_BadHouse, k3_BadHouse, k4_BadHouse, k5_BadHouse, k6_BadHouse, k7_BadHouse, k8_BadHouse⟩, q_BadHouse_BadHouse, q_BadHouse_BadHand, q_BadHouse_BadLaying, q_BadHouse_BadNote, q_BadHouse_MeldError, q_BadHouse_ValueError, ⟨k1_BadHand, k2_BadHand, k3_BadHand, k4_BadHand, k5_BadHand, k6_BadHand, k7_BadHand, k8_BadHand⟩, q_BadHand_BadHouse, q_BadHand_BadHand, q_BadHand_BadLaying, q_BadHand_BadNote, q_BadHand_MeldError, q_BadHand_ValueError, ⟨k1_BadLaying, k2_BadLaying, k3_BadLaying, k4_BadLaying, k5_BadLaying, k6_BadLaying, k7_BadLaying, k8_BadLaying⟩, q_BadLaying_BadHouse, q_BadLaying_BadHand, q_BadLaying_BadLaying, q_BadLaying_BadNote, q_BadLaying_MeldError, q_BadLaying_ValueError, ⟨k1_BadNote, k2_BadNote, k3_BadNote, k4_BadNote, k5_BadNote, k6_BadNote, k7_BadNote, k8_BadNote⟩, q_BadNote_BadHouse, q_BadNote_BadHand, q_BadNote_BadLaying, q_BadNote_BadNote, q_BadNote_MeldError, q_BadNote_ValueError, q_MeldError_BadHouse, q_MeldError_BadHand, q_MeldError_BadLaying, q_MeldError_BadNote, PySem.W.mg_of X G a_E_BadHouse, PySem.W.mg_of X G a_E_BadHand, PySem.W.mg_of X G a_E_BadLaying, PySem.W.mg_of X G a_E_BadNote, PySem.W.mg_of X G a_E_MeldError⟩
  refine ⟨PySem.W.fnOf "law" "law" (defArgs s_law) (defBody s_law) (defScope s_law) .none kV_law dc_law pm_law an_law cd_law ct_law, fun s v => .of_eq rfl, fun base kb nb => ?_⟩
  refine law_fn (C := C) (E_BadHand := E_BadHand) (E_BadHouse := E_BadHouse) (E_BadLaying := E_BadLaying) (E_BadNote := E_BadNote) (E_MeldError := E_MeldError) (fun ns hl => math K C E_BadHand E_BadHouse E_BadLaying E_BadNote E_MeldError R ns hl) ?_
  exact law_ok (P := l.prog) (w := w) (base := base) T R (xc_mk X G a_E_BadHouse e_E_BadHouse) ⟨mk, aI, iI, kc⟩ (fun_mk lI cI kI) (PySem.W.mg_of X G aC) (df_mk X G a_is_tile l_is_tile c_is_tile k_is_tile bd_is_tile) (df_mk X G a_all_tiles l_all_tiles c_all_tiles k_all_tiles bd_all_tiles) (df_mk X G a_is_in_order l_is_in_order c_is_in_order k_is_in_order bd_is_in_order) (df_mk X G a_is_hand l_is_hand c_is_hand k_is_hand bd_is_hand) (df_mk X G a_check_hand l_check_hand c_check_hand k_check_hand bd_check_hand) (df_mk X G a_is_run l_is_run c_is_run k_is_run bd_is_run) (df_mk X G a_is_group l_is_group c_is_group k_is_group bd_is_group) (df_mk X G a_is_meld l_is_meld c_is_meld k_is_meld bd_is_meld) (df_mk X G a_tiles_of l_tiles_of c_tiles_of k_tiles_of bd_tiles_of) (df_mk X G a_total l_total c_total k_total bd_total) (df_mk X G a_lay_out l_lay_out c_lay_out k_lay_out bd_lay_out) (df_mk X G a_tiles_of_laying l_tiles_of_laying c_tiles_of_laying k_tiles_of_laying bd_tiles_of_laying) (df_mk X G a_left l_left c_left k_left bd_left) (df_mk X G a_worth l_worth c_worth k_worth bd_worth) (df_mk X G a_tile_word l_tile_word c_tile_word k_tile_word bd_tile_word) (df_mk X G a_shown l_shown c_shown k_shown bd_shown) (df_mk X G a_read l_read c_read k_read bd_read) (df_mk X G a_helpers l_helpers c_helpers k_helpers bd_helpers) (df_mk X G a__law_cell_at l__law_cell_at c__law_cell_at k__law_cell_at bd__law_cell_at) (df_mk X G a__law_mix l__law_mix c__law_mix k__law_mix bd__law_mix) (df_mk X G a__law_house_by l__law_house_by c__law_house_by k__law_house_by bd__law_house_by) (df_mk X G a__law_met l__law_met c__law_met k__law_met bd__law_met) (df_mk X G a__law_which l__law_which c__law_which k__law_which bd__law_which) (fun_mk l_law c_law k_law)
theorem walk {l : PySem.W.OpenLaw} {q : Program} {loose : List Str} {XP : (Str → Option Value) → Heap → Prop} {YP : World → Heap → Prop} {d : DefRec} {K : Params → PySem.W.Frag} (hn : l.most = some 63) (hdf : d.params.defaults = [])
    (hY : ∀ (w : World) (h : Heap), YP w h → (K w.params).In h)
    (F : ∀ (w : World) (mg : Str → Option Value) (fa : Addr) (h : Heap), (K w.params).In h → h.Ns mainGlobals mg → mg d.name = some (.ref fa) →
      ∃ fd : FuncData, (∀ (s : Shared) (u : Value), BindsTo s fd ⟨[u], []⟩ [("script", u)]) ∧ ∀ base : Heap, (K w.params).In base → base.Ns mainGlobals mg → FnOk l.prog w (K w.params) mg base CX0 9 fa fd ["script"] (spLaw (K w.params))) :
    PySem.W.WalkO q loose XP YP l.row.toRowW d [] (fun f vs => PySem.call f vs) :=
  L2.walk_of (n := 63) (k := 9) (x := "script") (CX := fun _ => CX0) (sp := fun w => spLaw (K w.params)) hn (by decide) hdf ⟨rfl, by decide, by decide⟩ hY F (fun _ _ a ns hl _ hS => ⟨a, ns, rfl, hS, hl, fun _ => rfl⟩) fun _ _ _ _ _ z => z
theorem walkX {q : Program} {loose : List Str} {XP : (Str → Option Value) → Heap → Prop} {K : Params → PySem.W.Frag} {as : List Addr} {n t : Nat} {r : PySem.W.RowW} {d : DefRec} {kwd : List (Str × Expr)} {run : Value → List Value → Sem Value} (e : ∀ P, as = (K P).map (·.1))
    (h : PySem.W.WalkO q loose XP (fun w h => (K w.params).In h) r d kwd run) : PySem.W.WalkX q loose XP (PySem.W.X.obsZ as) (PySem.W.X.valZ K n t) r d kwd run := by
  intro w s₀ s₁ mg mb G y a o pm cd doc dV kV h1 h2 h3 h4 h5 h6 args vals as' L hpre hlay hrd hwl hlo
  exact h w s₀ s₁ mg mb G (fun b ob hb => L.keeps _ _ ((PySem.W.X.z_facts e y).2.1 b ob hb)) a o pm cd doc dV kV h1 h2 h3 h4 h5 h6 args vals as' hpre hlay hrd hwl hlo
end K12
open PySem PySem.W PyProof.Rows L2 L3 LW K12
set_option maxRecDepth 100000 in
set_option maxHeartbeats 0 in
theorem PySem.Challenge.cw_meldhouse_k12_refusals_apart_holds : PySem.Challenge.rw_meldhouse_k12_refusals_apart.Holds := by
  w_on; o_law; z_head; (case hw => w_witness2)
  k_fill
  refine K12.walkX (fun _ => rfl) (K12.walk (l := PySem.Challenge.rw_meldhouse_k12_refusals_apart) rfl rfl (fun w h Y => Y) ?F)
  case F =>
    intro w mg fa h KX G hmg
    refine' K12.all_mk KX G hmg ?a_is_tile ?l_is_tile ?c_is_tile ?k_is_tile ?a_all_tiles ?l_all_tiles ?c_all_tiles ?k_all_tiles ?a_is_in_order ?l_is_in_order ?c_is_in_order ?k_is_in_order ?a_is_hand ?l_is_hand ?c_is_hand ?k_is_hand ?a_check_hand ?l_check_hand ?c_check_hand ?k_check_hand ?a_is_run ?l_is_run ?c_is_run ?k_is_run ?a_is_group ?l_is_group ?c_is_group ?k_is_group ?a_is_meld ?l_is_meld ?c_is_meld ?k_is_meld ?a_tiles_of ?l_tiles_of ?c_tiles_of ?k_tiles_of ?a_total ?l_total ?c_total ?k_total ?a_lay_out ?l_lay_out ?c_lay_out ?k_lay_out ?a_tiles_of_laying ?l_tiles_of_laying ?c_tiles_of_laying ?k_tiles_of_laying ?a_left ?l_left ?c_left ?k_left ?a_worth ?l_worth ?c_worth ?k_worth ?a_tile_word ?l_tile_word ?c_tile_word ?k_tile_word ?a_shown ?l_shown ?c_shown ?k_shown ?a_read ?l_read ?c_read ?k_read ?a_helpers ?l_helpers ?c_helpers ?k_helpers ?a__law_cell_at ?l__law_cell_at ?c__law_cell_at ?k__law_cell_at ?a__law_mix ?l__law_mix ?c__law_mix ?k__law_mix ?a__law_house_by ?l__law_house_by ?c__law_house_by ?k__law_house_by ?a__law_met ?l__law_met ?c__law_met ?k__law_met ?a_law ?l_law ?c_law ?k_law ?a__law_which ?l__law_which ?c__law_which ?k__law_which ?aC ?aI ?iI ?lI ?cI ?kI ?pg ?hd ?po ?sa ?mk ?kc ?n_colours ?n_most ?i_LEAST_NUMBERS ?i_MOST_NUMBERS ?i_LEAST_COLOURS ?i_MOST_COLOURS ?i_MOST_TILES ?i_MOST_ALIKE ?i_MOST_JOKERS ?i_LEAST_SIZE ?i_LETTERS ?i_JOKER ?i_NOTHING ?b_ValueError ?b_all ?b_dict ?b_isinstance ?b_len ?b_list ?b_range ?b_sum ?a_E_BadHand ?a_E_BadHouse ?a_E_BadLaying ?a_E_BadNote ?a_E_MeldError ?e_E_BadHouse ?e_E_BadHand ?e_E_BadLaying ?e_E_BadNote ?e_E_MeldError ?k1_BadHouse ?k2_BadHouse ?k3_BadHouse ?k4_BadHouse ?k5_BadHouse ?k6_BadHouse ?k7_BadHouse ?k8_BadHouse ?q_BadHouse_BadHouse ?q_BadHouse_BadHand ?q_BadHouse_BadLaying ?q_BadHouse_BadNote ?q_BadHouse_MeldError ?q_BadHouse_ValueError ?k1_BadHand ?k2_BadHand ?k3_BadHand ?k4_BadHand ?k5_BadHand ?k6_BadHand ?k7_BadHand ?k8_BadHand ?q_BadHand_BadHouse ?q_BadHand_BadHand ?q_BadHand_BadLaying ?q_BadHand_BadNote ?q_BadHand_MeldError ?q_BadHand_ValueError ?k1_BadLaying ?k2_BadLaying ?k3_BadLaying ?k4_BadLaying ?k5_BadLaying ?k6_BadLaying ?k7_BadLaying ?k8_BadLaying ?q_BadLaying_BadHouse ?q_BadLaying_BadHand ?q_BadLaying_BadLaying ?q_BadLaying_BadNote ?q_BadLaying_MeldError ?q_BadLaying_ValueError ?k1_BadNote ?k2_BadNote ?k3_BadNote ?k4_BadNote ?k5_BadNote ?k6_BadNote ?k7_BadNote ?k8_BadNote ?q_BadNote_BadHouse ?q_BadNote_BadHand ?q_BadNote_BadLaying ?q_BadNote_BadNote ?q_BadNote_MeldError ?q_BadNote_ValueError ?q_MeldError_BadHouse ?q_MeldError_BadHand ?q_MeldError_BadLaying ?q_MeldError_BadNote
    (case a_is_tile => k_is)
    (case l_is_tile => k_is)
    (case c_is_tile => k_is)
    (case k_is_tile => k_is)
    (case a_all_tiles => k_is)
    (case l_all_tiles => k_is)
    (case c_all_tiles => k_is)
    (case k_all_tiles => k_is)
    (case a_is_in_order => k_is)
    (case l_is_in_order => k_is)
    (case c_is_in_order => k_is)
    (case k_is_in_order => k_is)
    (case a_is_hand => k_is)
    (case l_is_hand => k_is)
    (case c_is_hand => k_is)
    (case k_is_hand => k_is)
    (case a_check_hand => k_is)
    (case l_check_hand => k_is)
    (case c_check_hand => k_is)
    (case k_check_hand => k_is)
    (case a_is_run => k_is)
    (case l_is_run => k_is)
    (case c_is_run => k_is)
    (case k_is_run => k_is)
    (case a_is_group => k_is)
    (case l_is_group => k_is)
    (case c_is_group => k_is)
    (case k_is_group => k_is)
    (case a_is_meld => k_is)
    (case l_is_meld => k_is)
    (case c_is_meld => k_is)
    (case k_is_meld => k_is)
    (case a_tiles_of => k_is)
    (case l_tiles_of => k_is)
    (case c_tiles_of => k_is)
    (case k_tiles_of => k_is)
    (case a_total => k_is)
    (case l_total => k_is)
    (case c_total => k_is)
    (case k_total => k_is)
    (case a_lay_out => k_is)
    (case l_lay_out => k_is)
    (case c_lay_out => k_is)
    (case k_lay_out => k_is)
    (case a_tiles_of_laying => k_is)
    (case l_tiles_of_laying => k_is)
    (case c_tiles_of_laying => k_is)
    (case k_tiles_of_laying => k_is)
    (case a_left => k_is)
    (case l_left => k_is)
    (case c_left => k_is)
    (case k_left => k_is)
    (case a_worth => k_is)
    (case l_worth => k_is)
    (case c_worth => k_is)
    (case k_worth => k_is)
    (case a_tile_word => k_is)
    (case l_tile_word => k_is)
    (case c_tile_word => k_is)
    (case k_tile_word => k_is)
    (case a_shown => k_is)
    (case l_shown => k_is)
    (case c_shown => k_is)
    (case k_shown => k_is)
    (case a_read => k_is)
    (case l_read => k_is)
    (case c_read => k_is)
    (case k_read => k_is)
    (case a_helpers => k_is)
    (case l_helpers => k_is)
    (case c_helpers => k_is)
    (case k_helpers => k_is)
    (case a__law_cell_at => k_is)
    (case l__law_cell_at => k_is)
    (case c__law_cell_at => k_is)
    (case k__law_cell_at => k_is)
    (case a__law_mix => k_is)
    (case l__law_mix => k_is)
    (case c__law_mix => k_is)
    (case k__law_mix => k_is)
    (case a__law_house_by => k_is)
    (case l__law_house_by => k_is)
    (case c__law_house_by => k_is)
    (case k__law_house_by => k_is)
    (case a__law_met => k_is)
    (case l__law_met => k_is)
    (case c__law_met => k_is)
    (case k__law_met => k_is)
    (case a_law => k_is)
    (case l_law => k_is)
    (case c_law => k_is)
    (case k_law => k_is)
    (case a__law_which => k_is)
    (case l__law_which => k_is)
    (case c__law_which => k_is)
    (case k__law_which => k_is)
    (case aC => k_is)
    (case aI => k_is)
    (case iI => k_is)
    (case lI => k_is)
    (case cI => k_is)
    (case kI => k_is)
    (case pg => k_is)
    (case hd => k_is)
    (case po => k_is)
    (case sa => k_is)
    (case mk => k_is)
    (case kc => k_is)
    (case n_colours => k_is)
    (case n_most => k_is)
    (case i_LEAST_NUMBERS => k_is)
    (case i_MOST_NUMBERS => k_is)
    (case i_LEAST_COLOURS => k_is)
    (case i_MOST_COLOURS => k_is)
    (case i_MOST_TILES => k_is)
    (case i_MOST_ALIKE => k_is)
    (case i_MOST_JOKERS => k_is)
    (case i_LEAST_SIZE => k_is)
    (case i_LETTERS => k_is)
    (case i_JOKER => k_is)
    (case i_NOTHING => k_is)
    (case b_ValueError => k_is)
    (case b_all => k_is)
    (case b_dict => k_is)
    (case b_isinstance => k_is)
    (case b_len => k_is)
    (case b_list => k_is)
    (case b_range => k_is)
    (case b_sum => k_is)
    (case a_E_BadHand => k_is)
    (case a_E_BadHouse => k_is)
    (case a_E_BadLaying => k_is)
    (case a_E_BadNote => k_is)
    (case a_E_MeldError => k_is)
    (case e_E_BadHouse => k_exc)
    (case e_E_BadHand => k_exc)
    (case e_E_BadLaying => k_exc)
    (case e_E_BadNote => k_exc)
    (case e_E_MeldError => k_exc)
    (case k1_BadHouse => k_is)
    (case k2_BadHouse => k_is)
    (case k3_BadHouse => k_is)
    (case k4_BadHouse => k_is)
    (case k5_BadHouse => k_is)
    (case k6_BadHouse => k_is)
    (case k7_BadHouse => k_is)
    (case k8_BadHouse => k_is)
    (case q_BadHouse_BadHouse => kit_is)
    (case q_BadHouse_BadHand => kit_is)
    (case q_BadHouse_BadLaying => kit_is)
    (case q_BadHouse_BadNote => kit_is)
    (case q_BadHouse_MeldError => kit_is)
    (case q_BadHouse_ValueError => kit_is)
    (case k1_BadHand => k_is)
    (case k2_BadHand => k_is)
    (case k3_BadHand => k_is)
    (case k4_BadHand => k_is)
    (case k5_BadHand => k_is)
    (case k6_BadHand => k_is)
    (case k7_BadHand => k_is)
    (case k8_BadHand => k_is)
    (case q_BadHand_BadHouse => kit_is)
    (case q_BadHand_BadHand => kit_is)
    (case q_BadHand_BadLaying => kit_is)
    (case q_BadHand_BadNote => kit_is)
    (case q_BadHand_MeldError => kit_is)
    (case q_BadHand_ValueError => kit_is)
    (case k1_BadLaying => k_is)
    (case k2_BadLaying => k_is)
    (case k3_BadLaying => k_is)
    (case k4_BadLaying => k_is)
    (case k5_BadLaying => k_is)
    (case k6_BadLaying => k_is)
    (case k7_BadLaying => k_is)
    (case k8_BadLaying => k_is)
    (case q_BadLaying_BadHouse => kit_is)
    (case q_BadLaying_BadHand => kit_is)
    (case q_BadLaying_BadLaying => kit_is)
    (case q_BadLaying_BadNote => kit_is)
    (case q_BadLaying_MeldError => kit_is)
    (case q_BadLaying_ValueError => kit_is)
    (case k1_BadNote => k_is)
    (case k2_BadNote => k_is)
    (case k3_BadNote => k_is)
    (case k4_BadNote => k_is)
    (case k5_BadNote => k_is)
    (case k6_BadNote => k_is)
    (case k7_BadNote => k_is)
    (case k8_BadNote => k_is)
    (case q_BadNote_BadHouse => kit_is)
    (case q_BadNote_BadHand => kit_is)
    (case q_BadNote_BadLaying => kit_is)
    (case q_BadNote_BadNote => kit_is)
    (case q_BadNote_MeldError => kit_is)
    (case q_BadNote_ValueError => kit_is)
    (case q_MeldError_BadHouse => kit_is)
    (case q_MeldError_BadHand => kit_is)
    (case q_MeldError_BadLaying => kit_is)
    (case q_MeldError_BadNote => kit_is)
