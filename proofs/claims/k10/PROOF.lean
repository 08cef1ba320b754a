import PyProof.Rows.All
import Wide.All
import OpenK.AllK
import Wide.FinOn
import Lean
import PyProof.EqAt
import PyProof.EqKinds
import PyProof.TupleCall
import PySem.Challenge.RW_meldhouse_k10_texts_read
set_option Elab.async false
set_option linter.all false
set_option maxRecDepth 100000
namespace L2
open PySem PySem.Spec PyProof.Rows
noncomputable abbrev Key := Sum Int Str
noncomputable def keyIs : Key → Value → Bool
  | .inl k, v => Value.isInt k v
  | .inr x, v => Value.isStrOf x v
noncomputable def keyH (w : World) : Key → Int
  | .inl k => hashInt k
  | .inr x => hashStr w x
theorem zjh : ∀ {k : Key} {v : Value}, keyIs k v = true → (∃ i t, k = Sum.inl i ∧ v = Value.int i t) ∨ (∃ x t, k = Sum.inr x ∧ v = Value.str x t)
  | .inl i, v, h => by
    obtain ⟨t, e⟩ := Value.isInt_shape (k := i) (v := v) h
    exact .inl ⟨i, t, rfl, e⟩
  | .inr x, v, h => by
    obtain ⟨t, e⟩ := Value.isStrOf_shape (x := x) (v := v) h
    exact .inr ⟨x, t, rfl, e⟩
theorem keyIs_str (x : Str) (t : Tok) : keyIs (.inr x) (.str x t) = true := by simp [keyIs, Value.isStrOf]
theorem key_ll (a b : Int) : decide ((Sum.inl a : Key) = Sum.inl b) = (a == b) := by
  by_cases e : a = b
  · subst e; simp
  · have h : ¬ (Sum.inl a : Key) = Sum.inl b := fun q => e (Sum.inl.inj q)
    rw [decide_eq_false h]
    exact (beq_eq_false_iff_ne.mpr e).symm
theorem key_rr (a b : Str) : decide ((Sum.inr a : Key) = Sum.inr b) = decide (a = b) := by
  by_cases e : a = b
  · subst e; simp
  · have h : ¬ (Sum.inr a : Key) = Sum.inr b := fun q => e (Sum.inr.inj q)
    rw [decide_eq_false h, decide_eq_false e]
theorem key_lr (a : Int) (b : Str) : decide ((Sum.inl a : Key) = Sum.inr b) = false := decide_eq_false (fun q => nomatch q)
theorem key_rl (a : Str) (b : Int) : decide ((Sum.inr a : Key) = Sum.inl b) = false := decide_eq_false (fun q => nomatch q)
noncomputable def mixKind (prog : Program) (w : World) : PySem.KeyKind prog w Key where
  is := keyIs
  hash := keyH w
  inj := fun v a b ha hb => by
    rcases zjh ha with ⟨i, t, rfl, rfl⟩ | ⟨x, t, rfl, rfl⟩
    · rcases zjh hb with ⟨j, u, rfl, e⟩ | ⟨y, u, rfl, e⟩
      · injection e with e1 _; rw [e1]
      · exact nomatch e
    · rcases zjh hb with ⟨j, u, rfl, e⟩ | ⟨y, u, rfl, e⟩
      · exact nomatch e
      · injection e with e1 _; rw [e1]
  byValue := fun k v h => by
    rcases zjh h with ⟨i, t, rfl, rfl⟩ | ⟨x, t, rfl, rfl⟩ <;> rfl
  pyHash := fun hv h => by
    rcases zjh hv with ⟨i, t, rfl, rfl⟩ | ⟨x, t, rfl, rfl⟩
    · exact wpAny_pyHash_int h
    · exact wpAny_pyHash_str h
  eqBool := fun hu hv h => by
    rcases zjh hu with ⟨i, t, rfl, rfl⟩ | ⟨x, t, rfl, rfl⟩
    · rcases zjh hv with ⟨j, u, rfl, rfl⟩ | ⟨y, u, rfl, rfl⟩
      · rw [key_ll] at h; exact wpAny_eqBool_int h
      · rw [key_lr] at h; exact SeqAt.EqAt.int_str i t y u _ _ _ _ h
    · rcases zjh hv with ⟨j, u, rfl, rfl⟩ | ⟨y, u, rfl, rfl⟩
      · rw [key_rl] at h; exact SeqAt.EqAt.str_int x t j u _ _ _ _ h
      · rw [key_rr] at h; exact wpAny_eqBool_str h
  «strs» := fun k x t v h => by
    rcases zjh h with ⟨i, u, rfl, e⟩ | ⟨y, u, rfl, e⟩
    · exact nomatch e
    · injection e with e1 _
      subst e1
      cases v <;> rfl
theorem mixKind_str (prog : Program) (w : World) (x : Str) (t : Tok) : (mixKind prog w).is (.inr x) (.str x t) = true := keyIs_str x t
end L2
namespace L2
open PySem PySem.Spec PyProof.Rows
inductive V where
  | non | bl (b : Bool) | int (i : Int) | str (x : Str) | byt (b : Array UInt8) | flt (b : UInt64) | ref (a : Addr) | ty (n : String)
  deriving DecidableEq
noncomputable def RelV : V → Value → Prop
  | .non, u => u = Value.none
  | .bl b, u => u = Value.bool b
  | .int i, u => ∃ t, u = Value.int i t
  | .str x, u => ∃ t, u = Value.str x t
  | .byt b, u => ∃ t, u = Value.bytes b t
  | .flt b, u => ∃ t, u = Value.float b t
  | .ref a, u => u = Value.ref a
  | .ty n, u => u = Value.type n
noncomputable abbrev Vals : List V → List Value → Prop := Paired RelV
theorem Vals.length {xs : List V} {us : List Value} (r : Vals xs us) : xs.length = us.length := Paired.length r
theorem Vals.get : ∀ {xs : List V} {us : List Value} {i : Nat} {x : V}, Vals xs us → xs[i]? = some x → ∃ u, us[i]? = some u ∧ RelV x u
  | _, _, _, _, .nil, e => by simp at e
  | _, _, 0, _, .cons r _, e => by simp at e; subst e; exact ⟨_, rfl, r⟩
  | _, _, i + 1, x, .cons _ t, e => by
    obtain ⟨u, h1, h2⟩ := Vals.get (i := i) (x := x) t (by simpa using e)
    exact ⟨u, by simpa using h1, h2⟩
theorem Vals.set {x : V} {u : Value} (r : RelV x u) : ∀ {xs : List V} {us : List Value} (i : Nat), Vals xs us → Vals (xs.set i x) (us.set i u)
  | _, _, _, .nil => .nil
  | _, _, 0, .cons _ t => .cons r t
  | _, _, i + 1, .cons q t => .cons q (Vals.set r i t)
theorem Vals.append : ∀ {xs ys : List V} {us ws : List Value}, Vals xs us → Vals ys ws → Vals (xs ++ ys) (us ++ ws)
  | _, _, _, _, .nil, s => s
  | _, _, _, _, .cons r t, s => .cons r (Vals.append t s)
theorem Vals.take : ∀ {xs : List V} {us : List Value} (n : Nat), Vals xs us → Vals (xs.take n) (us.take n)
  | _, _, 0, _ => .nil
  | _, _, _ + 1, .nil => .nil
  | _, _, n + 1, .cons r t => .cons r (Vals.take n t)
theorem Vals.drop : ∀ {xs : List V} {us : List Value} (n : Nat), Vals xs us → Vals (xs.drop n) (us.drop n)
  | _, _, 0, r => r
  | _, _, _ + 1, .nil => .nil
  | _, _, n + 1, .cons _ t => Vals.drop n t
noncomputable def RelO : Option V → Option Value → Prop
  | some v, some u => RelV v u
  | none, none => True
  | _, _ => False
noncomputable def KV {κ : Type} : List (κ × V) → List (κ × Value) → Prop := Paired fun (p : κ × V) (q : κ × Value) => p.1 = q.1 ∧ RelV p.2 q.2
noncomputable def kV : Key → V
  | .inl i => .int i
  | .inr x => .str x
inductive HO where
  | lst (xs : List V)
  | tup (xs : List V)
  | dK (kvs : List (Key × V)) | dT (kvs : List (List Key × V))
  | set (S : Int → Bool) (n : Nat)
  | ins (C dx : Addr) (fs : List (Str × V))
  | own (x : Addr)
  | xd (fs : List (Str × V))
  | met (f x : Addr)
  | rng (lo hi : Int)
  | frz (o : Obj) (u : HO)
  | tbl (ps : Array Value)
  | ext (φ : Heap → Prop)
noncomputable abbrev Hp := Addr → Option HO
noncomputable def upd (H : Hp) (a : Addr) (o : HO) : Hp := fun b => if b = a then some o else H b
theorem zjj {H : Hp} {a : Addr} {o : HO} : upd H a o a = some o := by unfold upd; rw [if_pos rfl]
theorem zqq {H : Hp} {a b : Addr} {o : HO} (h : b ≠ a) : upd H a o b = H b := by unfold upd; rw [if_neg h]
theorem upd_upd {H : Hp} {a : Addr} {o u : HO} : upd (upd H a o) a u = upd H a u := by
  funext b; unfold upd; split <;> rfl
theorem zkx {H : Hp} {a b : Addr} {o : HO} (h : H a = some o) (h' : H b = none) : a ≠ b := by
  intro e; subst e; rw [h] at h'; cases h'
section
variable (P : Program) (w : World)
noncomputable def ObjOk (H : Hp) (h : Heap) (a : Addr) : HO → Prop
  | .lst xs => xs.length ≤ sizeLine ∧ ∃ (its : List Value) (n : Nat), Vals xs its ∧ h.get? a = some { cls := .type "list", data := .seq its.toArray n }
  | .tup xs => xs.length ≤ sizeLine ∧ ∃ its : List Value, Vals xs its ∧ IsTup h a its.toArray
  | .dK kvs => kvs.length ≤ sizeLine ∧ (a == sysModules) = false ∧ ∃ vs, KV kvs vs ∧ h.DictOf (mixKind P w) a vs
  | .dT kvs => kvs.length ≤ sizeLine ∧ (a == sysModules) = false ∧ ∃ xs : List (List Key × Addr × Value),
      Paired (fun (p : List Key × V) (q : List Key × Addr × Value) => p.1 = q.1 ∧ H q.2.1 = some (.tup (p.1.map kV)) ∧ RelV p.2 q.2.2) kvs xs ∧
      ∃ o es ep, h.get? a = some o ∧ o.ExactDict ∧ o.data = .dict es ep ∧ es.toList = xs.map (entryOfKey (tupleKind (mixKind P w))) ∧ (xs.map (·.1)).Nodup
  | .set S n => h.SetOf (intKind P w) a S n
  | .ins C dx fs => H dx = some (.own a) ∧ fs.length ≤ 1000 ∧ dx ≠ a ∧ h.get? a = some (PySem.W.instObj C dx) ∧
      ∃ mA, h.Ns1 dx mA ∧ (∀ f, RelO (fs.lookup f) (mA f)) ∧ PySem.Within mA (fs.map (·.1))
  | .own _ => ∃ o, h.get? a = some o
  | .xd fs => ∃ mA, h.Ns1 a mA ∧ ∀ f, RelO (fs.lookup f) (mA f)
  | .rng lo hi => ∃ t u v, h.get? a = some { cls := .type "range", data := .fields #[.int lo t, .int hi u, .int 1 v] }
  | .frz o u => h.get? a = some o ∧ ObjOk H h a u
  | .tbl ps => h.get? a = some { cls := .none, data := .fields ps }
  | .met f x => h.get? a = some (PySem.W.methodObj (.ref f) (.ref x))
  | .ext φ => φ h ∧ (∃ o, h.get? a = some o) ∧ ∀ h1 h2 : Heap, φ h1 → (∀ o, h1.get? a = some o → h2.get? a = some o) → φ h2
noncomputable def HOk (H : Hp) (h : Heap) : Prop := ∀ a o, H a = some o → ObjOk P w H h a o
end
section
variable {P : Program} {w : World} {H H' : Hp} {h h' : Heap} {a : Addr} {o : HO}
theorem ObjOk.lt (x : ObjOk P w H h a o) : a < h.objs.size := by
  cases o with
  | lst xs => obtain ⟨_, _, _, _, e⟩ := x; exact Heap.lt_size e
  | tup xs => obtain ⟨_, _, _, p⟩ := x; exact p.lt
  | dK kvs => obtain ⟨_, _, _, _, o, _, _, e, _⟩ := x; exact Heap.lt_size e
  | dT kvs => obtain ⟨_, _, _, _, o, _, _, e, _⟩ := x; exact Heap.lt_size e
  | set S n => obtain ⟨o, _, _, _, e, _⟩ := x; exact Heap.lt_size e
  | ins C dx fs => obtain ⟨_, _, _, e, _⟩ := x; exact Heap.lt_size e
  | own y => obtain ⟨_, e⟩ := x; exact Heap.lt_size e
  | xd fs => obtain ⟨_, ⟨_, _, _, e, _⟩, _⟩ := x; exact Heap.lt_size e
  | rng lo hi => obtain ⟨_, _, _, e⟩ := x; exact Heap.lt_size e
  | frz ob u => obtain ⟨e, _⟩ := x; exact Heap.lt_size e
  | tbl ps => exact Heap.lt_size (show h.get? a = some _ from x)
  | met f y => exact Heap.lt_size (show h.get? a = some _ from x)
  | ext φ => obtain ⟨_, ⟨_, e⟩, _⟩ := x; exact Heap.lt_size e
theorem Paired.mapP {α β : Type} {F G : α → β → Prop} : ∀ {l₁ : List α} {l₂ : List β}, Paired F l₁ l₂ → (∀ a b, F a b → G a b) → Paired G l₁ l₂
  | _, _, .nil, _ => .nil
  | _, _, .cons r t, f => .cons (f _ _ r) (Paired.mapP t f)
theorem ObjOk.stay (x : ObjOk P w H h a o) (k : ∀ b u, (b = a ∨ H b = some (.own a)) → h.get? b = some u → h'.get? b = some u)
    (ho : ∀ b, H b = some (.own a) → H' b = some (.own a)) (ht : ∀ b xs, H b = some (.tup xs) → H' b = some (.tup xs)) : ObjOk P w H' h' a o := by
  induction o with
  | lst xs => obtain ⟨z, its, n, r, e⟩ := x; exact ⟨z, its, n, r, k _ _ (.inl rfl) e⟩
  | tup xs => obtain ⟨z, its, r, ob, e, c⟩ := x; exact ⟨z, its, r, ob, k _ _ (.inl rfl) e, c⟩
  | dK kvs => obtain ⟨z, y, vs, r, ob, es, ep, e, c⟩ := x; exact ⟨z, y, vs, r, ob, es, ep, k _ _ (.inl rfl) e, c⟩
  | dT kvs =>
    obtain ⟨z, y, xs, r, ob, es, ep, e, c⟩ := x
    exact ⟨z, y, xs, Paired.mapP r fun p q z => ⟨z.1, ht _ _ z.2.1, z.2.2⟩, ob, es, ep, k _ _ (.inl rfl) e, c⟩
  | set S n => obtain ⟨ob, es, ep, t, e, c⟩ := x; exact ⟨ob, es, ep, t, k _ _ (.inl rfl) e, c⟩
  | ins C dx fs =>
    obtain ⟨d, z, ne, e, mA, ⟨od, es, ep, e2, c⟩, r⟩ := x
    exact ⟨ho _ d, z, ne, k _ _ (.inl rfl) e, mA, ⟨od, es, ep, k _ _ (.inr d) e2, c⟩, r⟩
  | own y => obtain ⟨ob, e⟩ := x; exact ⟨ob, k _ _ (.inl rfl) e⟩
  | xd fs => obtain ⟨mA, ⟨od, es, ep, e, c⟩, r⟩ := x; exact ⟨mA, ⟨od, es, ep, k _ _ (.inl rfl) e, c⟩, r⟩
  | rng lo hi => obtain ⟨t, u, v, e⟩ := x; exact ⟨t, u, v, k _ _ (.inl rfl) e⟩
  | frz ob u ih => obtain ⟨e, q⟩ := x; exact ⟨k _ _ (.inl rfl) e, ih q⟩
  | tbl ps =>
    have e : h.get? a = some { cls := .none, data := .fields ps } := x
    show h'.get? a = some { cls := .none, data := .fields ps }
    exact k a _ (.inl rfl) e
  | met f y =>
    have e : h.get? a = some (PySem.W.methodObj (.ref f) (.ref y)) := x
    show h'.get? a = some (PySem.W.methodObj (.ref f) (.ref y))
    exact k a _ (.inl rfl) e
  | ext φ => obtain ⟨p, ⟨o, e⟩, st⟩ := x; exact ⟨st _ _ p fun o q => k _ _ (.inl rfl) q, ⟨o, k _ _ (.inl rfl) e⟩, st⟩
theorem HOk.lt (x : HOk P w H h) (e : H a = some o) : a < h.objs.size := (x a o e).lt
theorem HOk.fresh (x : HOk P w H h) (e : h.objs.size ≤ a) : H a = none := by
  cases q : H a with
  | none => rfl
  | some u => exact absurd (Nat.lt_of_lt_of_le (x.lt q) e) (Nat.lt_irrefl _)
theorem HOk.kept (x : HOk P w H h) (k : ∀ b u, h.get? b = some u → h'.get? b = some u) : HOk P w H h' := fun a o e =>
  (x a o e).stay (fun b u _ q => k b u q) (fun _ q => q) fun _ _ q => q
theorem HOk.laid (x : HOk P w H h) (k : ∀ b u, h.get? b = some u → h'.get? b = some u) (hp : h.objs.size ≤ a) (new : ObjOk P w (upd H a o) h' a o) : HOk P w (upd H a o) h' := fun b u e => by
  have hn := x.fresh hp
  by_cases hb : b = a
  · subst hb; rw [zjj] at e; cases e; exact new
  · rw [zqq hb] at e
    exact (x b u e).stay (fun c v _ q => k c v q) (fun c q => by rw [zqq (zkx q hn)]; exact q) fun c xs q => by rw [zqq (zkx q hn)]; exact q
end
noncomputable def Rd (H : Hp) (a : Addr) (u : HO) : Prop := H a = some u ∨ ∃ o, H a = some (.frz o u)
theorem Rd.of {H : Hp} {a : Addr} {u : HO} (h : H a = some u) : Rd H a u := .inl h
theorem Rd.ok {P : Program} {w : World} {H : Hp} {h : Heap} {a : Addr} {u : HO} (r : Rd H a u) (x : HOk P w H h) : ObjOk P w H h a u := by
  rcases r with r | ⟨o, r⟩
  · exact x a u r
  · obtain ⟨_, q⟩ := x a _ r
    exact q
noncomputable def Mut : Option HO → Prop
  | some (.lst _) => True
  | some (.dK _) => True
  | some (.dT _) => True
  | some (.set _ _) => True
  | some (.ins _ _ _) => True
  | some (.ext _) => True
  | _ => False
section
variable {P : Program} {w : World} {H : Hp} {h h' : Heap} {x e : Addr} {o' : HO}
theorem HOk.write (ok : HOk P w H h) (mu : Mut (H x)) (he : e = x ∨ H e = some (.own x)) (k : ∀ b u, b ≠ e → h.get? b = some u → h'.get? b = some u) (heo : ∃ u, h'.get? e = some u)
    (new : ObjOk P w (upd H x o') h' x o') : HOk P w (upd H x o') h' := fun b u q => by
  have nown : ∀ c y, H c = some (.own y) → c ≠ x := fun c y r z => by subst z; rw [r] at mu; exact mu
  have ntup : ∀ c xs, H c = some (.tup xs) → c ≠ x := fun c xs r z => by subst z; rw [r] at mu; exact mu
  by_cases hb : b = x
  · subst hb; rw [zjj] at q; cases q; exact new
  · rw [zqq hb] at q
    by_cases hbe : b = e
    · have q' : H b = some (.own x) := by
        rcases he with z | z
        · exact absurd (hbe.trans z) hb
        · rw [hbe]; exact z
      rw [q] at q'; cases q'
      obtain ⟨v, hv⟩ := heo
      exact ⟨v, by rw [hbe]; exact hv⟩
    · refine (ok b u q).stay (fun c v hc r => k c v ?_ r) (fun c r => by rw [zqq (nown c b r)]; exact r) fun c xs r => by rw [zqq (ntup c xs r)]; exact r
      rcases hc with rfl | hc
      · exact hbe
      · rintro rfl
        rcases he with z | z
        · exact nown c b hc z
        · rw [hc] at z; cases z; exact hb rfl
end
structure Un (fs ex : List Addr) (H H' : Hp) (h h' : Heap) : Prop where
  keep : ∀ b o, h.get? b = some o → H b = none → b ∉ fs → b ∉ ex → h'.get? b = some o
  slot : ∀ b o, h.get? b = some o → H b = none → b ∈ fs → b ∉ ex → ∃ sl, h'.get? b = some { o with slots := sl }
  free : ∀ b o, h.get? b = some o → H b = none → b ∉ ex → H' b = none
  there : ∀ b o, h.get? b = some o → b ∉ ex → ∃ o', h'.get? b = some o'
  tups : ∀ b xs, H b = some (.tup xs) → H' b = some (.tup xs)
  frzs : ∀ b o u, H b = some (.frz o u) → H' b = some (.frz o u)
  tbls : ∀ b ps, H b = some (.tbl ps) → ∃ more, H' b = some (.tbl (ps ++ more))
section
variable {fs fs' ex ex' : List Addr} {H H1 H2 : Hp} {h h1 h2 h' : Heap} {a x e : Addr} {o : HO}
theorem Un.any (u : Un fs ex H H1 h h1) {b : Addr} {ob : Obj} (q : h.get? b = some ob) (n : H b = none) (hx : b ∉ ex) : ∃ sl, h1.get? b = some { ob with slots := sl } := by
  by_cases hb : b ∈ fs
  · exact u.slot b ob q n hb hx
  · exact ⟨ob.slots, u.keep b ob q n hb hx⟩
theorem Un.trans (a : Un fs ex H H1 h h1) (b : Un fs ex H1 H2 h1 h2) : Un fs ex H H2 h h2 where
  keep := fun c ob q n hc hx => b.keep c ob (a.keep c ob q n hc hx) (a.free c ob q n hx) hc hx
  slot := fun c ob q n hc hx => by
    obtain ⟨sl, e1⟩ := a.slot c ob q n hc hx
    obtain ⟨sl', e2⟩ := b.slot c _ e1 (a.free c ob q n hx) hc hx
    exact ⟨sl', e2⟩
  free := fun c ob q n hx => by
    obtain ⟨o', e1⟩ := a.there c ob q hx
    exact b.free c o' e1 (a.free c ob q n hx) hx
  there := fun c ob q hx => by
    obtain ⟨o', e1⟩ := a.there c ob q hx
    exact b.there c o' e1 hx
  tups := fun c xs q => b.tups c xs (a.tups c xs q)
  frzs := fun c ob xs q => b.frzs c ob xs (a.frzs c ob xs q)
  tbls := fun c ps q => by
    obtain ⟨m1, e1⟩ := a.tbls c ps q
    obtain ⟨m2, e2⟩ := b.tbls c _ e1
    exact ⟨m1 ++ m2, by rw [e2, Array.append_assoc]⟩
theorem Un.kept (k : ∀ b u, h.get? b = some u → h'.get? b = some u) : Un fs ex H H h h' :=
  ⟨fun b ob q _ _ _ => k b ob q, fun b ob q _ _ _ => ⟨ob.slots, k b ob q⟩, fun _ _ _ n _ => n, fun b ob q _ => ⟨ob, k b ob q⟩, fun _ _ q => q, fun _ _ _ q => q, fun _ ps q => ⟨#[], by rw [q]; simp⟩⟩
theorem Un.refl : Un fs ex H H h h := Un.kept fun _ _ q => q
theorem Un.laid (k : ∀ b u, h.get? b = some u → h'.get? b = some u) (hp : h.objs.size ≤ a) (hn : H a = none) : Un fs ex H (upd H a o) h h' where
  keep := fun b u q _ _ _ => k b u q
  slot := fun b u q _ _ _ => ⟨u.slots, k b u q⟩
  free := fun b u q n _ => by rw [zqq (Nat.ne_of_lt (Nat.lt_of_lt_of_le (Heap.lt_size q) hp))]; exact n
  there := fun b u q _ => ⟨u, k b u q⟩
  tups := fun b xs q => by rw [zqq (zkx q hn)]; exact q
  frzs := fun b u xs q => by rw [zqq (zkx q hn)]; exact q
  tbls := fun b ps q => ⟨#[], by rw [zqq (zkx q hn), q]; simp⟩
theorem Un.write (mu : Mut (H x)) (he : e = x ∨ H e = some (.own x)) (k : ∀ b u, b ≠ e → h.get? b = some u → h'.get? b = some u) (heo : ∃ u, h'.get? e = some u) : Un fs ex H (upd H x o) h h' := by
  have hx : ∀ b, H b = none → b ≠ x := fun b n z => by subst z; rw [n] at mu; exact mu
  have hb : ∀ b, H b = none → b ≠ e := fun b n z => by
    subst z
    rcases he with r | r
    · exact hx b n r
    · rw [n] at r; cases r
  have hm : ∀ b u, H b = some u → ¬ Mut (some u) → b ≠ x := fun b u q nm z => by subst z; rw [q] at mu; exact nm mu
  refine ⟨fun b u q n _ _ => k b u (hb b n) q, fun b u q n _ _ => ⟨u.slots, k b u (hb b n) q⟩, fun b u q n _ => by rw [zqq (hx b n)]; exact n, fun b u q _ => ?_,
    fun b xs q => by rw [zqq (hm b _ q fun z => z)]; exact q, fun b u xs q => by rw [zqq (hm b _ q fun z => z)]; exact q, fun b ps q => ⟨#[], by rw [zqq (hm b _ q fun z => z), q]; simp⟩⟩
  by_cases hbe : b = e
  · subst hbe; exact heo
  · exact ⟨u, k b u hbe q⟩
theorem Un.mono (u : Un fs ex H H1 h h1) (hs : ∀ b ∈ fs, b ∈ fs') (hx : ∀ b ∈ ex, b ∈ ex') : Un fs' ex' H H1 h h1 :=
  ⟨fun b ob q n hb he => u.keep b ob q n (fun z => hb (hs b z)) fun z => he (hx b z), fun _ _ q n _ he => u.any q n fun z => he (hx _ z), fun b ob q n he => u.free b ob q n fun z => he (hx b z), fun b ob q he => u.there b ob q fun z => he (hx b z), u.tups, u.frzs, u.tbls⟩
end
noncomputable def trk (h : Heap) (H : Hp) : List Addr := (List.range h.objs.size).filter fun a => (H a).isSome
noncomputable def hidT (h : Heap) (H : Hp) : Heap := PySem.W.hideAll h (trk h H)
theorem hidT_size (h : Heap) (H : Hp) : (hidT h H).objs.size = h.objs.size := PySem.W.hideAll_size _ _
theorem hidT_get {h : Heap} {H : Hp} {b : Addr} {o : Obj} (e : h.get? b = some o) (n : H b = none) : (hidT h H).get? b = some o :=
  PySem.W.hideAll_get _ e fun hm => by
    have q : (H b).isSome = true := (List.mem_filter.mp hm).2
    rw [n] at q; simp at q
theorem of_hidT {h : Heap} {H : Hp} {b : Addr} {o : Obj} (e : (hidT h H).get? b = some o) : h.get? b = some o ∧ H b = none := by
  have e' : h.get? b = some o := PySem.W.of_hideAll (trk h H) e
  refine ⟨e', ?_⟩
  cases q : H b with
  | none => rfl
  | some x =>
    have hm : b ∈ trk h H := List.mem_filter.mpr ⟨List.mem_range.mpr (Heap.lt_size e'), by simp [q]⟩
    have z : (hidT h H).get? b = none := PySem.W.hideAll_none (trk h H) hm
    rw [z] at e; cases e
noncomputable def allNews (g h : Heap) (L : Addr) : List (Addr × Obj) := (List.range h.objs.size).filterMap fun a => if a = L ∨ (g.get? a).isSome = true then none else (h.get? a).map fun o => (a, o)
noncomputable def rest (g h : Heap) (L d : Addr) : List (Addr × Obj) := (allNews g h L).filter fun p => decide (p.1 ≠ d)
end L2
namespace L2
open PySem PySem.Spec PyProof.Rows
structure Mod (K : PySem.W.Frag) (mg : Str → Option Value) (base : Heap) : Prop where
  kin : K.In base
  glob : base.Ns mainGlobals mg
  blt : ∃ mb, base.Ns builtinsNs mb ∧ ∀ x : Str, x ≠ "__name__" → mb x = bootBuiltins x
  nolimit : base.NoLimit
structure Cx where
  prog : Program
  w : World
  K : PySem.W.Frag
  mg : Str → Option Value
  base : Heap
  A : Around
  N : List Str
  s₀ : Shared
  H₀ : Hp
  env : Env
  outer : List Env
  stack : List Env
  ex : List Addr
  fn : Str → Bool
  calm : Bool
  pn : List (Addr × Obj)
  xe : Value → Shared → Prop
noncomputable def frs (l : List Env) : List Addr := l.filterMap (·.frame)
noncomputable abbrev Cx.fs (X : Cx) : List Addr := frs X.outer
noncomputable def Vis (sc : Scope) (x : Str) : Prop := sc.names.lookup x = some .local ∨ sc.names.lookup x = some .cell ∨ sc.names.lookup x = some .free
noncomputable def Loc (sc : Scope) (x : Str) : Prop := sc.names.lookup x = some .local ∨ sc.names.lookup x = some .cell
noncomputable def Look (env : Env) (h : Heap) (m : Str → Option Value) (x : Str) (u : Value) : Prop :=
  (env.kindOf x = some .local ∧ m x = some u) ∨ ((env.kindOf x = some .cell ∨ env.kindOf x = some .free) ∧ ∃ c, env.cells.lookup x = some c ∧ h.IsCell c (some u))
structure Cx.Ok (X : Cx) : Prop where
  mod : Mod X.K X.mg X.base
  kind : X.env.scope.kind = .function
  glob : X.env.globals = mainGlobals
  blt : X.env.builtins = builtinsNs
  above : X.s₀.heap.objs.size ≤ X.env.locals
  inj : ∀ x y c, X.env.cells.lookup x = some c → X.env.cells.lookup y = some c → x = y
  has : ∀ x, (X.env.kindOf x = some .cell ∨ X.env.kindOf x = some .free) → ∃ c, X.env.cells.lookup x = some c
  cab : ∀ x c, X.fn x = true → X.env.cells.lookup x = some c → X.s₀.heap.objs.size ≤ c
  hd : X.calm = true → X.A.handled = none
  frames : X.A.frames = some X.stack
  stk : X.stack = X.outer ∨ (X.stack = X.env :: X.outer ∧ X.env.frame = some X.env.locals)
  exf : ∀ b ∈ X.ex, b ≠ X.env.locals ∧ ∀ x c, X.env.cells.lookup x = some c → c ≠ b
  bs : ∀ b o, X.base.get? b = some o → X.s₀.heap.get? b = some o ∧ X.H₀ b = none
  bsz : X.base.objs.size ≤ X.s₀.heap.objs.size
  noex : ∀ b o, X.base.get? b = some o → b ∉ X.ex
  exfs : ∀ b ∈ X.ex, b ∉ X.fs
  funs : X.s₀.heap.FunFrames X.base X.outer
  frf : ∀ b ∈ X.fs, X.H₀ b = none
structure Inv (X : Cx) (pins : List (Addr × Obj)) (σ : List (Option V)) (H : Hp) (s : Shared) : Prop where
  ok : X.Ok
  os : s.os = X.s₀.os
  bare : AllBare s.gens
  base : Un X.fs X.ex X.H₀ H X.s₀.heap s.heap
  loc : ∃ m, s.heap.Ns X.env.locals m ∧ ∀ (i : Nat) (x : Str) (v : V), X.N[i]? = some x → σ[i]? = some (some v) → Vis X.env.scope x → ∃ u, RelV v u ∧ Look X.env s.heap m x u
  cell : ∀ x c, X.env.cells.lookup x = some c → ∃ v, s.heap.IsCell c v
  free : H X.env.locals = none
  freeC : ∀ x c, X.env.cells.lookup x = some c → H c = none
  pin : ∀ p ∈ X.pn ++ pins, s.heap.get? p.1 = some p.2 ∧ H p.1 = none ∧ p.1 ≠ X.env.locals ∧ p.1 ∉ X.fs ∧ ∀ v, p.2.data ≠ .cell v
  hok : HOk X.prog X.w H s.heap
  len : σ.length = X.N.length
section
variable {X : Cx} {pins : List (Addr × Obj)} {σ : List (Option V)} {H H' : Hp} {s : Shared} {h' : Heap}
theorem Cx.Ok.nofr (ok : X.Ok) {b : Addr} {o : Obj} (e : X.base.get? b = some o) : b ∉ X.fs := fun hb => by
  have := (ok.funs.mem hb).1
  rw [e] at this; cases this
theorem Inv.bs (I : Inv X pins σ H s) : ∀ b o, X.base.get? b = some o → s.heap.get? b = some o ∧ H b = none := fun b o e =>
  ⟨I.base.keep b o (I.ok.bs b o e).1 (I.ok.bs b o e).2 (I.ok.nofr e) (I.ok.noex b o e), I.base.free b o (I.ok.bs b o e).1 (I.ok.bs b o e).2 (I.ok.noex b o e)⟩
theorem Inv.bk (I : Inv X pins σ H s) : ∀ b o, X.base.get? b = some o → s.heap.get? b = some o := fun b o e => (I.bs b o e).1
theorem Inv.mod (I : Inv X pins σ H s) : Mod X.K X.mg X.base := I.ok.mod
theorem Inv.kIn (I : Inv X pins σ H s) : X.K.In s.heap := I.ok.mod.kin.keeps I.bk
theorem Inv.nolimit (I : Inv X pins σ H s) : s.heap.NoLimit := I.ok.mod.nolimit.keeps I.bk
theorem Inv.fr (I : Inv X pins σ H s) : ∃ m, Fr X.base X.env.locals s.heap m :=
  let ⟨m, hn, _⟩ := I.loc
  ⟨m, hn, I.bk, Nat.le_trans I.ok.bsz I.ok.above⟩
theorem Inv.lt (I : Inv X pins σ H s) : X.env.locals < s.heap.objs.size := let ⟨_, hn, _⟩ := I.loc; hn.lt
theorem Inv.sz (I : Inv X pins σ H s) : X.s₀.heap.objs.size ≤ s.heap.objs.size := Nat.le_trans I.ok.above (Nat.le_of_lt I.lt)
theorem Inv.nofs (I : Inv X pins σ H s) {a : Addr} (h : s.heap.objs.size ≤ a) : a ∉ X.fs := fun hb => by
  obtain ⟨_, o, ho, _⟩ := I.ok.funs.mem hb
  exact absurd (Nat.lt_of_lt_of_le (Heap.lt_size ho) (Nat.le_trans I.sz h)) (Nat.lt_irrefl _)
theorem Inv.cne (I : Inv X pins σ H s) : ∀ x c, X.env.cells.lookup x = some c → c ≠ X.env.locals := fun x c e z => by
  obtain ⟨v, o, ho, hd⟩ := I.cell x c e
  obtain ⟨m, ⟨o', es, ep, ho', hd', _⟩, _⟩ := I.loc
  rw [z, ho'] at ho; cases ho; rw [hd'] at hd; cases hd
theorem Inv.funs (I : Inv X pins σ H s) : s.heap.FunFrames X.base X.outer := by
  have all : ∀ (l : List Env), (∀ b ∈ frs l, b ∈ X.fs) → X.s₀.heap.FunFrames X.base l → s.heap.FunFrames X.base l := by
    intro l
    induction l with
    | nil => intro _ _; trivial
    | cons env r ih =>
      intro hs hl
      obtain ⟨hk, ⟨L, o, hf, hn, ho, hd⟩, hr⟩ := hl
      have hL : L ∈ X.fs := hs L (by unfold frs; rw [List.filterMap_cons, hf]; exact List.mem_cons_self)
      obtain ⟨sl, e⟩ := I.base.slot L o ho (I.ok.frf L hL) hL fun z => I.ok.exfs L z hL
      exact ⟨hk, ⟨L, _, hf, hn, e, hd⟩, ih (fun b hb => hs b (by unfold frs; rw [List.filterMap_cons, hf]; exact List.mem_cons_of_mem _ hb)) hr⟩
  exact all X.outer (fun _ hb => hb) I.ok.funs
theorem Inv.stack (I : Inv X pins σ H s) : s.heap.FunFrames X.base X.stack := by
  rcases I.ok.stk with e | ⟨e, hf⟩
  · rw [e]; exact I.funs
  · rw [e]
    obtain ⟨m, hn, _⟩ := I.loc
    refine .cons (by rw [I.ok.kind]; decide) hf hn ?_ I.funs
    exact Heap.get?_none_of_le (Nat.le_trans I.ok.bsz I.ok.above)
theorem Inv.stkSub (I : Inv X pins σ H s) : ∀ b ∈ frs X.stack, b ∈ X.env.locals :: X.fs := fun b hb => by
  rcases I.ok.stk with e | ⟨e, hf⟩
  · rw [e] at hb; exact List.mem_cons_of_mem _ hb
  · rw [e] at hb
    unfold frs at hb
    rw [List.filterMap_cons, hf] at hb
    exact hb
theorem Inv.stkFree (I : Inv X pins σ H s) : ∀ b ∈ frs X.stack, H b = none := fun b hb => by
  rcases List.mem_cons.mp (I.stkSub b hb) with e | hb
  · rw [e]; exact I.free
  · obtain ⟨_, o, ho, _⟩ := I.ok.funs.mem hb
    exact I.base.free b o ho (I.ok.frf b hb) fun z => I.ok.exfs b z hb
theorem Inv.step {g' : Array GenState} {t' : Nat} {d' : Drawn} {ch : List Addr} (I : Inv X pins σ H s)
    (hch : ∀ b ∈ ch, (b ∈ X.ex ∨ X.s₀.heap.objs.size ≤ b) ∧ b ≠ X.env.locals ∧ (∀ x c, X.env.cells.lookup x = some c → c ≠ b) ∧ ∀ p ∈ X.pn ++ pins, p.1 ≠ b)
    (keep : ∀ b o, b ≠ X.env.locals → b ∉ X.fs → b ∉ ch → s.heap.get? b = some o → H b = none → h'.get? b = some o)
    (slot : ∀ b o, b ≠ X.env.locals → b ∈ X.fs → b ∉ ch → s.heap.get? b = some o → H b = none → ∃ sl, h'.get? b = some { o with slots := sl }) (free : ∀ b o, b ∉ ch → s.heap.get? b = some o → H b = none → H' b = none)
    (there : ∀ b o, b ∉ ch → s.heap.get? b = some o → ∃ o', h'.get? b = some o')
    (tups : ∀ b xs, H b = some (.tup xs) → H' b = some (.tup xs)) (frzs : ∀ b o u, H b = some (.frz o u) → H' b = some (.frz o u)) (tbls : ∀ b ps, H b = some (.tbl ps) → ∃ more, H' b = some (.tbl (ps ++ more)))
    (ns : ∀ m, s.heap.Ns X.env.locals m → h'.Ns X.env.locals m) (hok : HOk X.prog X.w H' h') (hg : AllBare g') :
    Inv X pins σ H' { s with heap := h', gens := g', drawn := d', toks := t' } := by
  have neL : ∀ b o, X.s₀.heap.get? b = some o → b ≠ X.env.locals := fun b o e => Nat.ne_of_lt (Nat.lt_of_lt_of_le (Heap.lt_size e) I.ok.above)
  have neC : ∀ b o, X.s₀.heap.get? b = some o → b ∉ X.ex → b ∉ ch := fun b o e hx hb => by
    rcases (hch b hb).1 with z | z
    · exact hx z
    · exact absurd (Nat.lt_of_lt_of_le (Heap.lt_size e) z) (Nat.lt_irrefl _)
  have cellK : ∀ x c, X.env.cells.lookup x = some c → ∀ v, s.heap.IsCell c v → h'.IsCell c v := fun x c e v ⟨o, ho, hd⟩ => by
    have nch : c ∉ ch := fun z => (hch c z).2.2.1 x c e rfl
    by_cases hc : c ∈ X.fs
    · obtain ⟨sl, q⟩ := slot c o (I.cne x c e) hc nch ho (I.freeC x c e)
      exact ⟨_, q, hd⟩
    · exact ⟨o, keep c o (I.cne x c e) hc nch ho (I.freeC x c e), hd⟩
  refine ⟨I.ok, I.os, hg, ⟨fun b o e n hb hx => ?_, fun b o e n hb hx => ?_, fun b o e n hx => ?_, fun b o e hx => ?_, fun b xs e => tups b xs (I.base.tups b xs e), fun b o xs e => frzs b o xs (I.base.frzs b o xs e), fun b ps e => ?_⟩, ?_, fun x c e => ?_, ?_, fun x c e => ?_, fun p hp => ?_, hok, I.len⟩
  · exact keep b o (neL b o e) hb (neC b o e hx) (I.base.keep b o e n hb hx) (I.base.free b o e n hx)
  · obtain ⟨sl, e1⟩ := I.base.slot b o e n hb hx
    obtain ⟨sl', e2⟩ := slot b _ (neL b o e) hb (neC b o e hx) e1 (I.base.free b o e n hx)
    exact ⟨sl', e2⟩
  · obtain ⟨o', e1⟩ := I.base.there b o e hx
    exact free b o' (neC b o e hx) e1 (I.base.free b o e n hx)
  · obtain ⟨o', e1⟩ := I.base.there b o e hx
    exact there b o' (neC b o e hx) e1
  · obtain ⟨m1, e1⟩ := I.base.tbls b ps e
    obtain ⟨m2, e2⟩ := tbls b _ e1
    exact ⟨m1 ++ m2, by rw [e2, Array.append_assoc]⟩
  · obtain ⟨m, hn, hl⟩ := I.loc
    refine ⟨m, ns m hn, fun i x v e1 e2 e3 => ?_⟩
    obtain ⟨u, r, l⟩ := hl i x v e1 e2 e3
    refine ⟨u, r, ?_⟩
    rcases l with l | ⟨k, c, e, z⟩
    · exact .inl l
    · exact .inr ⟨k, c, e, cellK x c e _ z⟩
  · obtain ⟨v, z⟩ := I.cell x c e
    exact ⟨v, cellK x c e v z⟩
  · obtain ⟨m, ⟨o, _, _, ho, _⟩, _⟩ := I.loc
    exact free _ o (fun z => (hch _ z).2.1 rfl) ho I.free
  · obtain ⟨v, o, ho, hd⟩ := I.cell x c e
    exact free c o (fun z => (hch c z).2.2.1 x c e rfl) ho (I.freeC x c e)
  · obtain ⟨e, n, ne, nf, d⟩ := I.pin p hp
    have nch : p.1 ∉ ch := fun z => (hch p.1 z).2.2.2 p hp rfl
    exact ⟨keep p.1 p.2 ne nf nch e n, free p.1 p.2 nch e n, ne, nf, d⟩
theorem Inv.un {t' : Nat} (I : Inv X pins σ H s) (u : Un X.fs [] H H' s.heap h') (hok : HOk X.prog X.w H' h') : Inv X pins σ H' { s with heap := h', toks := t' } := by
  obtain ⟨m, ⟨o, es, ep, ho, r⟩, _⟩ := id I.loc
  obtain ⟨sl, hL⟩ := u.any ho I.free (by simp)
  exact I.step (g' := s.gens) (d' := s.drawn) (ch := []) (fun _ z => nomatch z) (fun b o _ hb _ e n => u.keep b o e n hb (by simp)) (fun b o _ hb _ e n => u.slot b o e n hb (by simp)) (fun b o _ e n => u.free b o e n (by simp)) (fun b o _ e => u.there b o e (by simp)) u.tups u.frzs u.tbls (fun m' hm => by
    obtain ⟨o', es', ep', ho', r'⟩ := hm
    rw [ho] at ho'; cases ho'
    exact ⟨_, es', ep', hL, r'⟩) hok I.bare
theorem Inv.call {g' : Array GenState} {t' : Nat} {d' : Drawn} {ch : List Addr} (I : Inv X pins σ H s) (u : Un (frs X.stack) ch H H' s.heap h') (hok : HOk X.prog X.w H' h') (hg : AllBare g')
    (hch : ∀ b ∈ ch, (b ∈ X.ex ∨ X.s₀.heap.objs.size ≤ b) ∧ b ≠ X.env.locals ∧ (∀ x c, X.env.cells.lookup x = some c → c ≠ b) ∧ ∀ p ∈ X.pn ++ pins, p.1 ≠ b) :
    Inv X pins σ H' { s with heap := h', gens := g', drawn := d', toks := t' } := by
  obtain ⟨m, ⟨o, es, ep, ho, r⟩, _⟩ := id I.loc
  obtain ⟨sl, hL⟩ := u.any ho I.free fun z => (hch _ z).2.1 rfl
  exact I.step (ch := ch) hch (fun b o hL hb hc e n => u.keep b o e n (fun z => (List.mem_cons.mp (I.stkSub b z)).elim hL hb) hc) (fun b o _ _ hc e n => u.any e n hc) (fun b o hc e n => u.free b o e n hc) (fun b o hc e => u.there b o e hc) u.tups u.frzs u.tbls (fun m' hm => by
    obtain ⟨o', es', ep', ho', r'⟩ := hm
    rw [ho] at ho'; cases ho'
    exact ⟨_, es', ep', hL, r'⟩) hok hg
theorem Inv.turned {t' : Nat} {it : Addr} (I : Inv X pins σ H s) (k : ∀ b o, b ≠ it → s.heap.get? b = some o → h'.get? b = some o) (hn : H it = none) (hL : it ≠ X.env.locals)
    (h1 : it ∈ X.ex ∨ X.s₀.heap.objs.size ≤ it) (h2 : ∀ x c, X.env.cells.lookup x = some c → c ≠ it) (h3 : ∀ p ∈ X.pn ++ pins, p.1 ≠ it) : Inv X pins σ H { s with heap := h', toks := t' } := by
  have nit : ∀ b u, H b = some u → b ≠ it := fun b u e z => by rw [z, hn] at e; cases e
  refine I.step (g' := s.gens) (d' := s.drawn) (ch := [it]) (fun b hb => ?_) (fun b o _ _ hc e _ => k b o (fun z => hc (by simp [z])) e) (fun b o _ _ hc e _ => ⟨o.slots, k b o (fun z => hc (by simp [z])) e⟩) (fun _ _ _ _ n => n)
    (fun b o hc e => ⟨o, k b o (fun z => hc (by simp [z])) e⟩) (fun _ _ e => e) (fun _ _ _ e => e) (fun b ps e => ⟨#[], by rw [e]; simp⟩) (fun m hm => ?_) (fun b u e => ?_) I.bare
  · have e : b = it := by simpa using hb
    subst e
    exact ⟨h1, hL, h2, h3⟩
  · obtain ⟨o, es, ep, ho, r⟩ := hm
    exact ⟨o, es, ep, k _ o (Ne.symm hL) ho, r⟩
  · refine (I.hok b u e).stay (fun c v hc q => k c v ?_ q) (fun _ q => q) fun _ _ q => q
    rcases hc with z | z
    · rw [z]; exact nit b u e
    · exact nit c _ z
theorem Inv.tok (I : Inv X pins σ H s) (t : Nat) : Inv X pins σ H { s with toks := t } := I.un (h' := s.heap) (t' := t) Un.refl I.hok
theorem Inv.kept {t' : Nat} (I : Inv X pins σ H s) (k : ∀ b u, s.heap.get? b = some u → h'.get? b = some u) : Inv X pins σ H { s with heap := h', toks := t' } := I.un (Un.kept k) (I.hok.kept k)
theorem Inv.laid {a : Addr} {o : HO} {t' : Nat} (I : Inv X pins σ H s) (k : ∀ b u, s.heap.get? b = some u → h'.get? b = some u) (hp : s.heap.objs.size ≤ a) (new : ObjOk X.prog X.w (upd H a o) h' a o) :
    Inv X pins σ (upd H a o) { s with heap := h', toks := t' } := I.un (Un.laid k hp (I.hok.fresh hp)) (I.hok.laid k hp new)
theorem Inv.write {x e : Addr} {o : HO} {t' : Nat} (I : Inv X pins σ H s) (mu : Mut (H x)) (he : e = x ∨ H e = some (.own x)) (k : ∀ b u, b ≠ e → s.heap.get? b = some u → h'.get? b = some u) (heo : ∃ u, h'.get? e = some u)
    (new : ObjOk X.prog X.w (upd H x o) h' x o) : Inv X pins σ (upd H x o) { s with heap := h', toks := t' } := I.un (Un.write mu he k heo) (I.hok.write mu he k heo new)
theorem Inv.pins_of {pins' : List (Addr × Obj)} (I : Inv X pins σ H s) (h : ∀ p ∈ pins', s.heap.get? p.1 = some p.2 ∧ H p.1 = none ∧ p.1 ≠ X.env.locals ∧ p.1 ∉ X.fs ∧ ∀ v, p.2.data ≠ .cell v) : Inv X pins' σ H s :=
  ⟨I.ok, I.os, I.bare, I.base, I.loc, I.cell, I.free, I.freeC, fun p hp => (List.mem_append.mp hp).elim (fun z => I.pin p (List.mem_append_left _ z)) (h p), I.hok, I.len⟩
theorem nodup_ix {N : List Str} (hN : N.Nodup) {i j : Nat} {x : Str} (a : N[i]? = some x) (b : N[j]? = some x) : i = j := by
  obtain ⟨h1, e1⟩ := List.getElem?_eq_some_iff.mp a
  obtain ⟨h2, e2⟩ := List.getElem?_eq_some_iff.mp b
  exact (List.getElem_inj hN).mp (e1.trans e2.symm)
theorem store_ok2 {M : Model} {A : Around} {E : Value → Shared → Prop} {i : Nat} {x : Str} {v : V} {u : Value} {Q : Unit → Shared → Prop} (I : Inv X pins σ H s) (hN : X.N.Nodup) (hi : X.N[i]? = some x) (hx : Loc X.env.scope x) (r : RelV v u)
    (h : ∀ s', Inv X pins (σ.set i (some v)) H s' → (∃ a, Heap.SameBut a s.heap s'.heap ∧ (a = X.env.locals ∨ X.env.cells.lookup x = some a)) → Q () s') (hf : X.fn x = true ∨ X.env.scope.names.lookup x = some .local := by first | exact .inl rfl | exact .inr rfl | assumption) : wpAny M A (storeName X.env x u) Q E s := by
  obtain ⟨m, hn, hl⟩ := id I.loc
  have hcls : (X.env.scope.kind == .class || (X.env.scope.kind == .module && X.env.locals != X.env.globals)) = false := by rw [I.ok.kind]; rfl
  have hiσ : i < σ.length := by rw [I.len]; exact (List.getElem?_eq_some_iff.mp hi).1
  have cne := I.cne
  have tracked : ∀ {a : Addr} {h' : Heap}, (∃ o, s.heap.get? a = some o ∧ H a = none) → Heap.SameBut a s.heap h' → HOk X.prog X.w H h' := fun {a h'} ha hs b ob e => by
    obtain ⟨_, _, hfree⟩ := ha
    refine (I.hok b ob e).stay (fun c w' hc q => (hs.2 c ?_).trans q) (fun _ q => q) fun _ _ q => q
    rintro rfl
    rcases hc with rfl | hc
    · rw [hfree] at e; cases e
    · rw [hfree] at hc; cases hc
  rcases hx with hk | hk
  · refine wpAny_storeName_local hk hn (fun h' hn' hs => ?_) hcls
    obtain ⟨oL, _, _, hoL, _⟩ := id hn
    refine h _ ⟨I.ok, I.os, I.bare, ⟨fun b o e n hb hx => ?_, fun b o e n hb hx => ?_, I.base.free, fun b o e hx => ?_, I.base.tups, I.base.frzs, I.base.tbls⟩, ⟨_, hn', fun j y v' e1 e2 e3 => ?_⟩, fun y c e => ?_, I.free, I.freeC, fun p hp => ?_, tracked ⟨oL, hoL, I.free⟩ hs, by simpa using I.len⟩ ⟨_, hs, .inl rfl⟩
    · exact (hs.2 b (Nat.ne_of_lt (Nat.lt_of_lt_of_le (Heap.lt_size e) I.ok.above))).trans (I.base.keep b o e n hb hx)
    · obtain ⟨sl, e1⟩ := I.base.slot b o e n hb hx
      exact ⟨sl, (hs.2 b (Nat.ne_of_lt (Nat.lt_of_lt_of_le (Heap.lt_size e) I.ok.above))).trans e1⟩
    · obtain ⟨o', e1⟩ := I.base.there b o e hx
      exact ⟨o', (hs.2 b (Nat.ne_of_lt (Nat.lt_of_lt_of_le (Heap.lt_size e) I.ok.above))).trans e1⟩
    · by_cases hj : j = i
      · subst hj
        rw [hi] at e1; cases e1
        rw [List.getElem?_set_self hiσ] at e2
        cases e2
        exact ⟨u, r, .inl ⟨hk, by simp⟩⟩
      · rw [List.getElem?_set_ne (Ne.symm hj)] at e2
        obtain ⟨u', r', q⟩ := hl j y v' e1 e2 e3
        refine ⟨u', r', ?_⟩
        rcases q with ⟨k, e⟩ | ⟨k, c, e, z⟩
        · refine .inl ⟨k, ?_⟩
          have : y ≠ x := fun e => hj (nodup_ix hN e1 (e ▸ hi))
          simp [this, e]
        · exact .inr ⟨k, c, e, z.sameBut hs (cne y c e)⟩
    · obtain ⟨w', z⟩ := I.cell y c e
      exact ⟨w', z.sameBut hs (cne y c e)⟩
    · obtain ⟨e, n, ne, nf, d⟩ := I.pin p hp
      exact ⟨(hs.2 p.1 ne).trans e, n, ne, nf, d⟩
  · have hfn : X.fn x = true := by
      rcases hf with z | z
      · exact z
      · rw [z] at hk; cases hk
    obtain ⟨c, hc⟩ := I.ok.has x (.inl hk)
    obtain ⟨w', z⟩ := I.cell x c hc
    refine wpAny_storeName_cell I.ok.kind hk hc z (fun h' hc' hs => ?_)
    obtain ⟨oc, hoc, hocd⟩ := id z
    refine h { s with heap := h' } ⟨I.ok, I.os, I.bare, ⟨fun b o e n hb hx => ?_, fun b o e n hb hx => ?_, I.base.free, fun b o e hx => ?_, I.base.tups, I.base.frzs, I.base.tbls⟩, ⟨m, hn.sameBut hs (Ne.symm (cne x c hc)), fun j y v' e1 e2 e3 => ?_⟩, fun y c' e => ?_, I.free, I.freeC, fun p hp => ?_, tracked ⟨oc, hoc, I.freeC x c hc⟩ hs, by simpa using I.len⟩ ⟨c, hs, .inr hc⟩
    · exact (hs.2 b (Nat.ne_of_lt (Nat.lt_of_lt_of_le (Heap.lt_size e) (I.ok.cab x c hfn hc)))).trans (I.base.keep b o e n hb hx)
    · obtain ⟨sl, e1⟩ := I.base.slot b o e n hb hx
      exact ⟨sl, (hs.2 b (Nat.ne_of_lt (Nat.lt_of_lt_of_le (Heap.lt_size e) (I.ok.cab x c hfn hc)))).trans e1⟩
    · obtain ⟨o', e1⟩ := I.base.there b o e hx
      exact ⟨o', (hs.2 b (Nat.ne_of_lt (Nat.lt_of_lt_of_le (Heap.lt_size e) (I.ok.cab x c hfn hc)))).trans e1⟩
    · by_cases hj : j = i
      · subst hj
        rw [hi] at e1; cases e1
        rw [List.getElem?_set_self hiσ] at e2
        cases e2
        exact ⟨u, r, .inr ⟨.inl hk, c, hc, hc'⟩⟩
      · rw [List.getElem?_set_ne (Ne.symm hj)] at e2
        obtain ⟨u', r', q⟩ := hl j y v' e1 e2 e3
        refine ⟨u', r', ?_⟩
        rcases q with q | ⟨k, c', e, z'⟩
        · exact .inl q
        · refine .inr ⟨k, c', e, z'.sameBut hs ?_⟩
          rintro rfl
          exact hj (nodup_ix hN e1 (I.ok.inj _ _ _ e hc ▸ hi))
    · by_cases hcc : c' = c
      · subst hcc; exact ⟨_, hc'⟩
      · obtain ⟨w2, z2⟩ := I.cell y c' e
        exact ⟨w2, z2.sameBut hs hcc⟩
    · obtain ⟨e, n, ne, nf, d⟩ := I.pin p hp
      refine ⟨(hs.2 p.1 ?_).trans e, n, ne, nf, d⟩
      intro q
      rw [q, hoc] at e
      have q' : oc = p.2 := Option.some.inj e
      exact d w' (by rw [← q']; exact hocd)
theorem store_ok {M : Model} {A : Around} {E : Value → Shared → Prop} {i : Nat} {x : Str} {v : V} {u : Value} {Q : Unit → Shared → Prop} (I : Inv X pins σ H s) (hN : X.N.Nodup) (hi : X.N[i]? = some x) (hx : Loc X.env.scope x) (r : RelV v u)
    (h : ∀ s', Inv X pins (σ.set i (some v)) H s' → Q () s') (hf : X.fn x = true ∨ X.env.scope.names.lookup x = some .local := by first | exact .inl rfl | exact .inr rfl | assumption) : wpAny M A (storeName X.env x u) Q E s :=
  store_ok2 I hN hi hx r (fun s' I' _ => h s' I') hf
theorem Inv.call' {s' : Shared} {ch : List Addr} (I : Inv X pins σ H s) (ho : s'.os = s.os) (u : Un (frs X.stack) ch H H' s.heap s'.heap) (hok : HOk X.prog X.w H' s'.heap) (hg : AllBare s'.gens)
    (hch : ∀ b ∈ ch, (b ∈ X.ex ∨ X.s₀.heap.objs.size ≤ b) ∧ b ≠ X.env.locals ∧ (∀ x c, X.env.cells.lookup x = some c → c ≠ b) ∧ ∀ p ∈ X.pn ++ pins, p.1 ≠ b) : Inv X pins σ H' s' := by
  obtain ⟨h', g', d', t', o'⟩ := s'
  have e : o' = s.os := ho
  subst e
  exact I.call (g' := g') (t' := t') (d' := d') u hok hg hch
end
noncomputable abbrev XK := Value → Option Addr → Hp → Prop
noncomputable abbrev St := List (Option V)
noncomputable abbrev VK := V → Hp → Prop
noncomputable abbrev TE := St → Hp → VK → Prop
noncomputable abbrev TT := St → Hp → (Bool → Hp → Prop) → Prop
noncomputable abbrev TA := St → Hp → (List V → Hp → Prop) → Prop
structure Ends where
  nx : St → Hp → Prop
  rt : VK
  bk : St → Hp → Prop := fun _ _ => False
  ct : St → Hp → Prop := fun _ _ => False
noncomputable abbrev TS := Ends → St → Hp → Prop
noncomputable def EP (X : Cx) (pins : List (Addr × Obj)) (σ : St) (Q : VK) (u : Value) (s' : Shared) : Prop := ∃ v H', Inv X pins σ H' s' ∧ RelV v u ∧ Q v H'
noncomputable def TP (X : Cx) (pins : List (Addr × Obj)) (σ : St) (Q : Bool → Hp → Prop) (b : Bool) (s' : Shared) : Prop := ∃ H', Inv X pins σ H' s' ∧ Q b H'
noncomputable def AP (X : Cx) (pins : List (Addr × Obj)) (σ : St) (Q : List V → Hp → Prop) (us : List Value) (s' : Shared) : Prop := ∃ vs H', Inv X pins σ H' s' ∧ Vals vs us ∧ Q vs H'
noncomputable def SP (X : Cx) (pins : List (Addr × Obj)) (D : Ends) (f : Flow) (s' : Shared) : Prop :=
  match f with
  | .next => ∃ σ' H', Inv X pins σ' H' s' ∧ D.nx σ' H'
  | .brk => ∃ σ' H', Inv X pins σ' H' s' ∧ D.bk σ' H'
  | .cont => ∃ σ' H', Inv X pins σ' H' s' ∧ D.ct σ' H'
  | .ret u => ∃ v σ' H', Inv X pins σ' H' s' ∧ RelV v u ∧ D.rt v H'
noncomputable def PE (X : Cx) (e : Expr) (t : TE) : Prop :=
  ∀ (pins : List (Addr × Obj)) (s : Shared) (σ : St) (H : Hp) (Q : VK), Inv X pins σ H s → t σ H Q → wpAny (model X.prog X.w) X.A (eval e X.env) (EP X pins σ Q) X.xe s
noncomputable def PT (X : Cx) (e : Expr) (t : TT) : Prop :=
  ∀ (pins : List (Addr × Obj)) (s : Shared) (σ : St) (H : Hp) (Q : Bool → Hp → Prop), Inv X pins σ H s → t σ H Q → wpAny (model X.prog X.w) X.A (isTrue e X.env (eval e X.env)) (TP X pins σ Q) X.xe s
noncomputable def PW (X : Cx) (e : Expr) (t : TT) : Prop :=
  ∀ (whole : Sem Value) (pins : List (Addr × Obj)) (s : Shared) (σ : St) (H : Hp) (Q : Bool → Hp → Prop), Inv X pins σ H s → t σ H Q → wpAny (model X.prog X.w) X.A (isTrue e X.env whole) (TP X pins σ Q) X.xe s
theorem PW.pt {X : Cx} {e : Expr} {t : TT} (h : PW X e t) : PT X e t := h _
noncomputable def PA (X : Cx) (es : List Expr) (t : TA) : Prop :=
  ∀ (pos : Pos) (pins : List (Addr × Obj)) (s : Shared) (σ : St) (H : Hp) (Q : List V → Hp → Prop), Inv X pins σ H s → t σ H Q → wpAny (model X.prog X.w) X.A (spliced (backTo pos (starEach es X.env))) (AP X pins σ Q) X.xe s
noncomputable def PS (X : Cx) (st : Stmt) (t : TS) : Prop :=
  ∀ (pins : List (Addr × Obj)) (s : Shared) (σ : St) (H : Hp) (D : Ends), Inv X pins σ H s → t D σ H → wpAny (model X.prog X.w) X.A (exec st X.env) (SP X pins D) X.xe s
noncomputable def PSs (X : Cx) (st : List Stmt) (t : TS) : Prop :=
  ∀ (pins : List (Addr × Obj)) (s : Shared) (σ : St) (H : Hp) (D : Ends), Inv X pins σ H s → t D σ H → wpAny (model X.prog X.w) X.A (execs st X.env) (SP X pins D) X.xe s
theorem thn {α : Type} {t : Sem α} {Q Q' : α → Shared → Prop} {M : Model} {A : Around} {E : Value → Shared → Prop} {s : Shared} (h : wpAny M A t Q E s) (hQ : ∀ a s, Q a s → Q' a s) : wpAny M A t Q' E s := wpAny_mono h hQ fun _ _ x => x
end L2
namespace L2
open PySem PySem.Spec PyProof.Rows
section
variable {X : Cx}
theorem bin {a b : Expr} {ta tb : TE} (ha : PE X a ta) (hb : PE X b tb) {pins : List (Addr × Obj)} {s : Shared} {σ : St} {H : Hp} {R : V → V → Hp → Prop} (I : Inv X pins σ H s) (h : ta σ H fun x H1 => tb σ H1 fun y H2 => R x y H2)
    {α : Type} {Q : α → Shared → Prop} {f : Value → Value → Sem α}
    (hf : ∀ v u s2 x y H2, Inv X pins σ H2 s2 → RelV x v → RelV y u → R x y H2 → wpAny (model X.prog X.w) X.A (f v u) Q X.xe s2) :
    wpAny (model X.prog X.w) X.A (eval a X.env) (fun v s₁ => wpAny (model X.prog X.w) X.A (eval b X.env) (fun u s₂ => wpAny (model X.prog X.w) X.A (f v u) Q X.xe s₂) X.xe s₁) X.xe s := by
  refine thn (ha pins s σ H _ I h) fun v s1 ⟨x, H1, I1, r1, q1⟩ => ?_
  refine thn (hb pins s1 σ H1 _ I1 q1) fun u s2 ⟨y, H2, I2, r2, q2⟩ => ?_
  exact hf v u s2 x y H2 I2 r1 r2 q2
noncomputable def tVar (i : Nat) : TE := fun σ H Q => ∃ v, σ[i]? = some (some v) ∧ Q v H
noncomputable def tC (v : V) : TE := fun _ H Q => Q v H
theorem pe_var {i : Nat} {x : Str} {pos : Pos} (hN : X.N[i]? = some x) (hv : Vis X.env.scope x) (hd : (x == ("__debug__" : Str)) = false := by decide) (hcd : (x == ("__classdict__" : Str)) = false := by decide) : PE X (.Name x pos) (tVar i) := by
  intro pins s σ H Q I h
  obtain ⟨v, e, h⟩ := h
  obtain ⟨m, hn, hl⟩ := I.loc
  obtain ⟨u, r, l⟩ := hl i x v hN e hv
  have fin : EP X pins σ Q u s := ⟨v, H, I, r, h⟩
  rcases l with ⟨hk, hm⟩ | ⟨hk, c, hc, hcell⟩
  · exact wpAny_Name (wpAny_loadName_local I.ok.kind hk hn hm fin) hd
  · rcases hk with hk | hk
    · exact wpAny_Name (wpAny_loadName_cell I.ok.kind hk hc hcell fin) hd
    · exact wpAny_Name (wpAny_loadName_free I.ok.kind hk hc hcell fin hcd) hd
theorem pe_int {i j pos} : PE X (.Constant (.int i) j pos) (tC (.int i)) := fun _ _ _ H _ I h => wpAny_Constant_int ⟨.int i, H, I.tok _, ⟨_, rfl⟩, h⟩
theorem pe_bl {b j pos} : PE X (.Constant (.bool b) j pos) (tC (.bl b)) := fun _ _ _ H _ I h => Constant_bool ⟨.bl b, H, I, rfl, h⟩
theorem pe_non {j pos} : PE X (.Constant .none j pos) (tC .non) := fun _ _ _ H _ I h => Constant_none ⟨.non, H, I, rfl, h⟩
theorem pe_str {x j pos} : PE X (.Constant (.str x) j pos) (tC (.str x)) := fun _ _ _ H _ I h => Calls.Constant_str ⟨.str x, H, I.tok _, ⟨_, rfl⟩, h⟩
noncomputable def Gl (X : Cx) (x : Str) : Prop := X.env.kindOf x = some .globalImplicit
theorem ld_glob {E : Value → Shared → Prop} {pins : List (Addr × Obj)} {s : Shared} {σ : St} {H : Hp} {x : Str} {u : Value} {pos : Pos} {Q : Value → Shared → Prop} (I : Inv X pins σ H s) (hg : Gl X x) (hm : X.mg x = some u) (h : Q u s)
    (hd : (x == ("__debug__" : Str)) = false := by decide) : wpAny (model X.prog X.w) X.A (eval (.Name x pos) X.env) Q E s :=
  Calls.Name_function_global I.ok.kind hg (Calls.loadGlobal_global (by rw [I.ok.glob]; exact I.mod.glob.keeps I.bk) hm h) hd
theorem ld_blt {E : Value → Shared → Prop} {pins : List (Addr × Obj)} {s : Shared} {σ : St} {H : Hp} {x : Str} {u : Value} {pos : Pos} {Q : Value → Shared → Prop} (I : Inv X pins σ H s) (hg : Gl X x) (hm : X.mg x = none) (hv : bootBuiltins x = some u) (h : Q u s)
    (hn : x ≠ "__name__" := by decide) (hd : (x == ("__debug__" : Str)) = false := by decide) : wpAny (model X.prog X.w) X.A (eval (.Name x pos) X.env) Q E s := by
  obtain ⟨mb, h1, h2⟩ := I.mod.blt
  exact Calls.Name_function_global I.ok.kind hg (Calls.loadGlobal_builtin (by rw [I.ok.glob]; exact I.mod.glob.keeps I.bk) hm (by rw [I.ok.blt]; exact h1.keeps I.bk) ((h2 x hn).trans hv) h) hd
theorem pe_glob {x : Str} {v : V} {u : Value} {pos : Pos} (hg : Gl X x) (hm : X.mg x = some u) (r : RelV v u) (hd : (x == ("__debug__" : Str)) = false := by decide) : PE X (.Name x pos) (tC v) :=
  fun _ _ _ H _ I h => ld_glob I hg hm ⟨v, H, I, r, h⟩ hd
variable {a b : Expr} {ta tb : TE} {pos : Pos}
noncomputable def tB (t : TE) : TT := fun σ H Q => t σ H fun x H1 => ∃ c, x = .bl c ∧ Q c H1
theorem pt_val {e : Expr} {t : TE} (h : PE X e t) (he : ∀ whole, isTrue e X.env whole = (do let v ← whole; standAt e.pos; holding [v] (truthy v)) := by intro _; rfl) : PT X e (tB t) := by
  intro pins s σ H Q I hw
  refine isTrue_plain (thn (h pins s σ H _ I hw) fun v s1 ⟨x, H1, I1, r1, q1⟩ => ?_) (he _)
  obtain ⟨d, rfl, q⟩ := q1
  cases r1
  exact wpAny_truthy_bool ⟨H1, I1, q⟩
variable {tA tB' : TT} {rest : List Expr}
noncomputable def tAnd (t u : TT) : TT := fun σ H Q => t σ H fun c H1 => if c = true then u σ H1 Q else Q false H1
noncomputable def tOr (t u : TT) : TT := fun σ H Q => t σ H fun c H1 => if c = true then Q true H1 else u σ H1 Q
noncomputable def tNot (t : TT) : TT := fun σ H Q => t σ H fun c H1 => Q (!c) H1
theorem pw_and1 (ha : PT X a tA) : PW X (.BoolOp .And [a] pos) tA := by
  intro wh pins s σ H Q I h
  refine isTrue_and (thn (ha pins s σ H Q I h) fun c s1 e => ?_)
  cases c with
  | true => exact isTrue_and_nil e
  | false => exact e
theorem pw_or1 (ha : PT X a tA) : PW X (.BoolOp .Or [a] pos) tA := by
  intro wh pins s σ H Q I h
  refine isTrue_or (thn (ha pins s σ H Q I h) fun c s1 e => ?_)
  cases c with
  | false => exact isTrue_or_nil e
  | true => exact e
theorem pw_and (ha : PT X a tA) (hb : PW X (.BoolOp .And (b :: rest) pos) tB') : PW X (.BoolOp .And (a :: b :: rest) pos) (tAnd tA tB') := by
  intro wh pins s σ H Q I h
  refine isTrue_and (thn (ha pins s σ H _ I h) fun c s1 ⟨H1, I1, q1⟩ => ?_)
  cases c with
  | true => exact hb wh pins s1 σ H1 Q I1 q1
  | false => exact ⟨H1, I1, q1⟩
theorem pw_or (ha : PT X a tA) (hb : PW X (.BoolOp .Or (b :: rest) pos) tB') : PW X (.BoolOp .Or (a :: b :: rest) pos) (tOr tA tB') := by
  intro wh pins s σ H Q I h
  refine isTrue_or (thn (ha pins s σ H _ I h) fun c s1 ⟨H1, I1, q1⟩ => ?_)
  cases c with
  | true => exact ⟨H1, I1, q1⟩
  | false => exact hb wh pins s1 σ H1 Q I1 q1
theorem pt_not (ha : PT X a tA) : PT X (.UnaryOp .Not a pos) (tNot tA) := by
  intro pins s σ H Q I h
  exact isTrue_not (ha pins s σ H (fun c H1 => Q (!c) H1) I h)
noncomputable def tAndV (ta tb : TE) : TE := fun σ H Q => ta σ H fun x H1 => ∃ c, x = .bl c ∧ if c = true then tb σ H1 Q else Q (.bl false) H1
noncomputable def tNotV (ta : TE) : TE := fun σ H Q => ta σ H fun x H1 => ∃ c, x = .bl c ∧ Q (.bl (!c)) H1
theorem pe_one {op} {t : TE} (h : PE X a t) : PE X (.BoolOp op [a] pos) t := fun pins s σ H Q I hw => BoolOp_one (h pins s σ H Q I hw)
theorem pe_and (ha : PE X a ta) (hb : PE X (.BoolOp .And (b :: rest) pos) tb) : PE X (.BoolOp .And (a :: b :: rest) pos) (tAndV ta tb) := by
  intro pins s σ H Q I h
  refine BoolOp_and (thn (ha pins s σ H _ I h) fun v s1 ⟨x, H1, I1, r1, q1⟩ => ?_)
  obtain ⟨c, rfl, q1⟩ := q1
  cases r1
  refine wpAny_truthy_bool ?_
  cases c with
  | true => exact hb pins s1 σ H1 Q I1 q1
  | false => exact ⟨.bl false, H1, I1, rfl, q1⟩
theorem pe_not (ha : PE X a ta) : PE X (.UnaryOp .Not a pos) (tNotV ta) := by
  intro pins s σ H Q I h
  refine UnaryOp_ (thn (ha pins s σ H _ I h) fun v s1 ⟨x, H1, I1, r1, q1⟩ => ?_)
  obtain ⟨c, rfl, q1⟩ := q1
  cases r1
  exact not_of (wpAny_truthy_bool ⟨.bl (!c), H1, I1, rfl, q1⟩)
noncomputable def tIf (t : TT) (ta tb : TE) : TE := fun σ H Q => t σ H fun c H1 => if c = true then ta σ H1 Q else tb σ H1 Q
theorem pe_ifExp {c : Expr} (hc : PT X c tA) (ha : PE X a ta) (hb : PE X b tb) : PE X (.IfExp c a b pos) (tIf tA ta tb) := by
  intro pins s σ H Q I h
  refine wpAny_IfExp (thn (hc pins s σ H _ I h) fun d s1 ⟨H1, I1, q1⟩ => ?_)
  cases d with
  | true => exact ha pins s1 σ H1 Q I1 q1
  | false => exact hb pins s1 σ H1 Q I1 q1
end
end L2
namespace L2
open PySem PySem.Spec PyProof.Rows
noncomputable def SqL (K : PySem.W.Frag) (H : Hp) (a : Addr) (xs : List V) : Prop :=
  Rd H a (.lst xs) ∨
    ∃ (o : Obj) (its : Array Value) (n : Nat), K.lookup a = some o ∧ o.cls = .type "list" ∧ o.dict = none ∧ o.data = .seq its n ∧ its.size ≤ sizeLine ∧ Vals xs its.toList
noncomputable def SqT (K : PySem.W.Frag) (H : Hp) (a : Addr) (xs : List V) : Prop :=
  Rd H a (.tup xs) ∨
    ∃ (o : Obj) (its : Array Value) (n : Nat), K.lookup a = some o ∧ o.cls = .type "tuple" ∧ o.data = .seq its n ∧ its.size ≤ sizeLine ∧ Vals xs its.toList
noncomputable def absV : Value → Option V
  | .none => some .non
  | .bool b => some (.bl b)
  | .int i _ => some (.int i)
  | .str x _ => some (.str x)
  | .bytes b _ => some (.byt b)
  | .float b _ => some (.flt b)
  | .ref a => some (.ref a)
  | .type n => some (.ty n)
  | _ => none
theorem RelV.abs {x : V} {u : Value} (r : RelV x u) : absV u = some x := by
  cases x with
  | non => cases r; rfl
  | bl _ => cases r; rfl
  | int _ => obtain ⟨t, rfl⟩ := r; rfl
  | str _ => obtain ⟨t, rfl⟩ := r; rfl
  | byt _ => obtain ⟨t, rfl⟩ := r; rfl
  | flt _ => obtain ⟨t, rfl⟩ := r; rfl
  | ref _ => cases r; rfl
  | ty _ => cases r; rfl
theorem RelV.inj {x y : V} {u : Value} (r : RelV x u) (q : RelV y u) : x = y := Option.some.inj (r.abs.symm.trans q.abs)
theorem Vals.inj : ∀ {xs ys : List V} {us : List Value}, Vals xs us → Vals ys us → xs = ys
  | _, _, _, .nil, .nil => rfl
  | _, _, _, .cons r t, .cons r' t' => by rw [r.inj r', Vals.inj t t']
section
variable {X : Cx} {pins : List (Addr × Obj)} {σ : St} {H : Hp} {s : Shared} {a : Addr} {xs ys : List V}
theorem SqL.of {K : PySem.W.Frag} (h : H a = some (.lst xs)) : SqL K H a xs := .inl (.inl h)
theorem SqT.of {K : PySem.W.Frag} (h : H a = some (.tup xs)) : SqT K H a xs := .inl (.inl h)
theorem Inv.list (I : Inv X pins σ H s) (h : SqL X.K H a xs) : ∃ its : List Value, Vals xs its ∧ PlainL s.heap a its.toArray ∧ xs.length ≤ sizeLine := by
  rcases h with h | ⟨o, its, n, hk, hc, hd, hs, hz, r⟩
  · obtain ⟨z, its, n, r, e⟩ := h.ok I.hok
    exact ⟨its, r, ⟨_, n, e, rfl, rfl, rfl⟩, z⟩
  · refine ⟨its.toList, r, ⟨o, n, I.kIn a o hk, hc, hd, by simpa using hs⟩, ?_⟩
    have e := r.length
    simp only [Array.length_toList] at e
    lia
theorem Inv.tuple (I : Inv X pins σ H s) (h : SqT X.K H a xs) : ∃ its : List Value, Vals xs its ∧ IsTup s.heap a its.toArray ∧ xs.length ≤ sizeLine := by
  rcases h with h | ⟨o, its, n, hk, hc, hs, hz, r⟩
  · obtain ⟨z, its, r, p⟩ := h.ok I.hok
    exact ⟨its, r, p, z⟩
  · refine ⟨its.toList, r, ⟨o, I.kIn a o hk, hc, n, by simpa using hs⟩, ?_⟩
    have e := r.length
    simp only [Array.length_toList] at e
    lia
theorem Inv.list_inj (I : Inv X pins σ H s) (h : SqL X.K H a xs) (h' : SqL X.K H a ys) : xs = ys := by
  obtain ⟨its, r, ⟨o, n, e, _, _, d⟩, _⟩ := I.list h
  obtain ⟨its', r', ⟨o', n', e', _, _, d'⟩, _⟩ := I.list h'
  rw [e] at e'; cases e'
  rw [d] at d'
  injection d' with d1 _
  have : its = its' := by simpa using congrArg Array.toList d1
  subst this
  exact r.inj r'
end
noncomputable abbrev Cx.wish (X : Cx) (E : Value → Shared → Prop) : Cx := { X with xe := E }
noncomputable abbrev Cx.nox (X : Cx) : Cx := X.wish fun _ _ => False
theorem Cx.Ok.wish {X : Cx} (ok : X.Ok) (E : Value → Shared → Prop) : (X.wish E).Ok :=
  ⟨ok.mod, ok.kind, ok.glob, ok.blt, ok.above, ok.inj, ok.has, ok.cab, ok.hd, ok.frames, ok.stk, ok.exf, ok.bs, ok.bsz, ok.noex, ok.exfs, ok.funs, ok.frf⟩
theorem Cx.Ok.unwish {X : Cx} {E : Value → Shared → Prop} (ok : (X.wish E).Ok) : X.Ok :=
  ⟨ok.mod, ok.kind, ok.glob, ok.blt, ok.above, ok.inj, ok.has, ok.cab, ok.hd, ok.frames, ok.stk, ok.exf, ok.bs, ok.bsz, ok.noex, ok.exfs, ok.funs, ok.frf⟩
section
variable {X : Cx} {pins : List (Addr × Obj)} {σ : St} {H : Hp} {s : Shared} {E : Value → Shared → Prop}
theorem Inv.wish (I : Inv X pins σ H s) (E : Value → Shared → Prop) : Inv (X.wish E) pins σ H s := ⟨I.ok.wish E, I.os, I.bare, I.base, I.loc, I.cell, I.free, I.freeC, I.pin, I.hok, I.len⟩
theorem Inv.unwish (I : Inv (X.wish E) pins σ H s) : Inv X pins σ H s := ⟨I.ok.unwish, I.os, I.bare, I.base, I.loc, I.cell, I.free, I.freeC, I.pin, I.hok, I.len⟩
theorem SP.unwish {D : Ends} {f : Flow} {s' : Shared} (h : SP (X.wish E) pins D f s') : SP X pins D f s' := by
  cases f with
  | next => obtain ⟨σ', H', I, q⟩ := h; exact ⟨σ', H', I.unwish, q⟩
  | brk => obtain ⟨σ', H', I, q⟩ := h; exact ⟨σ', H', I.unwish, q⟩
  | cont => obtain ⟨σ', H', I, q⟩ := h; exact ⟨σ', H', I.unwish, q⟩
  | ret u => obtain ⟨v, σ', H', I, r, q⟩ := h; exact ⟨v, σ', H', I.unwish, r, q⟩
theorem PE.nox {e : Expr} {t : TE} (h : PE X.nox e t) : PE X e t := fun pins s σ H Q I hw =>
  wpAny_mono (h pins s σ H Q (I.wish _) hw) (fun _ _ ⟨v, H', I', r, q⟩ => ⟨v, H', I'.unwish, r, q⟩) fun _ _ z => False.elim z
theorem PT.nox {e : Expr} {t : TT} (h : PT X.nox e t) : PT X e t := fun pins s σ H Q I hw =>
  wpAny_mono (h pins s σ H Q (I.wish _) hw) (fun _ _ ⟨H', I', q⟩ => ⟨H', I'.unwish, q⟩) fun _ _ z => False.elim z
theorem PSs.nox {st : List Stmt} {t : TS} (h : PSs X.nox st t) : PSs X st t := fun pins s σ H D I hw =>
  wpAny_mono (h pins s σ H D (I.wish _) hw) (fun _ _ q => q.unwish) fun _ _ z => False.elim z
end
section
variable {X : Cx} {st : Stmt} {rest : List Stmt} {t u : TS} {e : Expr} {te : TE} {pos : Pos}
noncomputable def tNext : TS := fun D σ H => D.nx σ H
noncomputable def tSeq (t u : TS) : TS := fun D σ H => t { D with nx := u D } σ H
theorem pss_nil : PSs X [] tNext := fun _ _ σ H _ I h => wpAny_execs_nil ⟨σ, H, I, h⟩
theorem pss_cons (h1 : PS X st t) (h2 : PSs X rest u) : PSs X (st :: rest) (tSeq t u) := by
  intro pins s σ H D I h
  refine wpAny_execs_cons (thn (h1 pins s σ H { D with nx := u D } I h) fun f s1 q => ?_)
  cases f with
  | next =>
    obtain ⟨σ', H', I', q⟩ := q
    exact h2 pins s1 σ' H' D I' q
  | ret v => exact q
  | brk => exact q
  | cont => exact q
theorem pss_one (h1 : PS X st t) : PSs X [st] t := by
  intro pins s σ H D I h
  refine wpAny_execs_cons (thn (h1 pins s σ H D I h) fun f s1 q => ?_)
  cases f with
  | next => exact wpAny_execs_nil q
  | ret v => exact q
  | brk => exact q
  | cont => exact q
theorem Inv.quiet {pins : List (Addr × Obj)} {σ : St} {H : Hp} {s : Shared} (I : Inv X pins σ H s) : interactive X.env = false := by simp [interactive, I.ok.kind]
noncomputable def tDrop (te : TE) : TS := fun D σ H => te σ H fun _ H1 => D.nx σ H1
theorem ps_expr (he : PE X e te) (hs : swapsWith e none pos.line X.env = pure false := by rfl) : PS X (.Expr e pos) (tDrop te) := by
  intro pins s σ H D I h
  exact wpAny_Expr_any (thn (he pins s σ H _ I h) fun v s1 ⟨x, H1, I1, r1, q1⟩ => ⟨σ, H1, I1, q1⟩) I.quiet hs
noncomputable def tRet (te : TE) : TS := fun D σ H => te σ H D.rt
theorem ps_ret (he : PE X e te) : PS X (.Return (some e) pos) (tRet te) := by
  intro pins s σ H D I h
  exact wpAny_Return_some (thn (he pins s σ H _ I h) fun v s1 ⟨x, H1, I1, r1, q1⟩ => ⟨x, σ, H1, I1, r1, q1⟩)
noncomputable def tIfS (c : TT) (t u : TS) : TS := fun D σ H => c σ H fun b H1 => if b = true then t D σ H1 else u D σ H1
theorem ps_if {c : Expr} {a b : List Stmt} {tc : TT} (hc : PT X c tc) (ha : PSs X a t) (hb : PSs X b u) : PS X (.If c a b pos) (tIfS tc t u) := by
  intro pins s σ H D I h
  refine wpAny_If (thn (hc pins s σ H _ I h) fun d s1 ⟨H1, I1, q1⟩ => ?_)
  cases d with
  | true => exact ha pins s1 σ H1 D I1 q1
  | false => exact hb pins s1 σ H1 D I1 q1
end
noncomputable abbrev TG := V → St → Hp → (St → Hp → Prop) → Prop
noncomputable abbrev TGs := List V → St → Hp → (St → Hp → Prop) → Prop
noncomputable def PG (X : Cx) (target : Expr) (t : TG) : Prop :=
  ∀ (pins : List (Addr × Obj)) (s : Shared) (σ : St) (H : Hp) (v : V) (u : Value) (Q : St → Hp → Prop), Inv X pins σ H s → RelV v u → t v σ H Q →
    wpAny (model X.prog X.w) X.A (assign target X.env u) (fun _ s' => ∃ σ' H', Inv X pins σ' H' s' ∧ Q σ' H') X.xe s
noncomputable def PGs (X : Cx) (ts : List Expr) (t : TGs) : Prop :=
  ∀ (pins : List (Addr × Obj)) (s : Shared) (σ : St) (H : Hp) (vs : List V) (us : List Value) (Q : St → Hp → Prop), Inv X pins σ H s → Vals vs us → t vs σ H Q →
    wpAny (model X.prog X.w) X.A (assignInOrder ((assignEach ts X.env).map (·.2)) us) (fun _ s' => ∃ σ' H', Inv X pins σ' H' s' ∧ Q σ' H') X.xe s
noncomputable abbrev TSet := V → V → V → Hp → (Hp → Prop) → Prop
noncomputable def PSet (X : Cx) (t : TSet) : Prop :=
  ∀ (pins : List (Addr × Obj)) (s : Shared) (σ : St) (H : Hp) (o i v : V) (ov iv u : Value) (Q : Hp → Prop), Inv X pins σ H s → RelV o ov → RelV i iv → RelV v u → t o i v H Q →
    wpAny (model X.prog X.w) X.A (setItem ov iv u) (fun _ s' => ∃ H', Inv X pins σ H' s' ∧ Q H') X.xe s
section
variable {X : Cx} {pos : Pos}
noncomputable def gName (i : Nat) : TG := fun v σ H Q => Q (σ.set i (some v)) H
theorem zja {i : Nat} {x : Str} (hN : X.N.Nodup) (hi : X.N[i]? = some x) (hx : Loc X.env.scope x) (hf : X.fn x = true ∨ X.env.scope.names.lookup x = some .local := by first | exact .inl rfl | exact .inr rfl | assumption) : PG X (.Name x pos) (gName i) := by
  intro pins s σ H v u Q I r h
  exact wpAny_assign_Name (store_ok I hN hi hx r (fun s' I' => ⟨_, H, I', h⟩) hf)
noncomputable def gNil : TGs := fun vs σ H Q => vs = [] ∧ Q σ H
noncomputable def gCons (t : TG) (u : TGs) : TGs := fun vs σ H Q => ∃ v r, vs = v :: r ∧ t v σ H fun σ' H' => u r σ' H' Q
theorem pgs_nil : PGs X [] gNil := by
  intro pins s σ H vs us Q I r h
  obtain ⟨e, h⟩ := h
  subst e
  cases r
  exact assignInOrder_nil ⟨σ, H, I, h⟩
theorem pgs_cons {e : Expr} {es : List Expr} {t : TG} {u : TGs} (h1 : PG X e t) (h2 : PGs X es u)
    (hs : (assignEach (e :: es) X.env).map (·.2) = assign e X.env :: (assignEach es X.env).map (·.2) := by rfl) : PGs X (e :: es) (gCons t u) := by
  intro pins s σ H vs us Q I r h
  obtain ⟨v, vr, e1, h⟩ := h
  subst e1
  cases r with
  | cons r rr =>
    rw [hs]
    refine assignInOrder_cons (thn (h1 pins s σ H _ _ _ I r h) fun _ s1 ⟨σ1, H1, I1, q1⟩ => ?_)
    exact h2 pins s1 σ1 H1 _ _ Q I1 rr q1
noncomputable def gTup (K : PySem.W.Frag) (n : Nat) (t : TGs) : TG := fun v σ H Q => ∃ a xs, v = .ref a ∧ SqT K H a xs ∧ xs.length = n ∧ t xs σ H Q
theorem pg_tup {es : List Expr} {k : Nat} {t : TGs} {n : Nat} (hc : X.calm = true) (h : PGs X es t)
    (hn : (assignEach es X.env).length = n := by rfl) (hst : (assignEach es X.env).findIdx? (·.1) = none := by rfl) : PG X (.Tuple es k pos) (gTup X.K n t) := by
  intro pins s σ H v u Q I r hw
  obtain ⟨a, xs, e1, hq, hl, hw⟩ := hw
  subst e1
  cases r
  obtain ⟨its, rv, ht, hz⟩ := I.tuple hq
  refine assign_Tuple_tuple (I.ok.hd hc) ht (by simp [hn, ← hl, rv.length]) hst fun h' hx => ?_
  have I1 : Inv X pins σ H { s with heap := h' } := I.kept (t' := s.toks) fun b o e => hx b o (Nat.ne_of_lt (Heap.lt_size e)) e
  exact h pins _ σ H xs _ Q I1 (by simpa using rv) hw
noncomputable def gSub (to ti : TE) (t : TSet) : TG := fun v σ H Q => to σ H fun o H1 => ti σ H1 fun i H2 => t o i v H2 fun H3 => Q σ H3
theorem pg_sub {o i : Expr} {to ti : TE} {t : TSet} (ho : PE X o to) (hi : PE X i ti) (hs : PSet X t)
    (ha : ∀ v, assign (.Subscript o i pos) X.env v = (do
      let ov ← holding [v] (eval o X.env)
      let iv ← holding [v, ov] (eval i X.env)
      standAt pos
      holding [v, ov, iv] (setItem ov iv v)
      release [v, ov, iv] []) := by intro _; rfl) : PG X (.Subscript o i pos) (gSub to ti t) := by
  intro pins s σ H v u Q I r h
  rw [ha]
  refine wpAny_bind (wpAny_holding (thn (ho pins s σ H _ I h) fun ov s1 ⟨x, H1, I1, r1, q1⟩ => ?_))
  refine wpAny_bind (wpAny_holding (thn (hi pins s1 σ H1 _ I1 q1) fun iv s2 ⟨y, H2, I2, r2, q2⟩ => ?_))
  refine wpAny_bind (wpAny_standAt (wpAny_bind (wpAny_holding (thn (hs pins s2 σ H2 x y v ov iv u _ I2 r1 r2 r q2) fun _ s3 ⟨H3, I3, q3⟩ => ?_))))
  exact wpAny_release ⟨σ, H3, I3, q3⟩
noncomputable def tAsg (te : TE) (g : TG) : TS := fun D σ H => te σ H fun x H1 => g x σ H1 D.nx
theorem ps_asg {tg e : Expr} {te : TE} {g : TG} (he : PE X e te) (hg : PG X tg g) (hs : swapsWithSole [tg] e pos.line X.env = pure false := by rfl) (hw : swappedStores [tg] e X.env = pure none := by rfl)
    (h1 : (assignEach [tg] X.env).map (·.2) = [assign tg X.env] := by rfl) : PS X (.Assign [tg] e pos) (tAsg te g) := by
  intro pins s σ H D I h
  refine wpAny_Assign_stores (thn (he pins s σ H _ I h) fun v s1 ⟨x, H1, I1, r1, q1⟩ => ?_) hs hw
  rw [h1]
  exact thn (hg pins s1 σ H1 x v _ I1 r1 q1) fun _ s2 q => q
theorem ps_set {i : Nat} {x : Str} {e : Expr} {te : TE} {pos' : Pos} (hN : X.N.Nodup) (hi : X.N[i]? = some x) (hx : Loc X.env.scope x) (he : PE X e te) (hs : swapsWith e (some (.Name x pos')) pos.line X.env = pure false := by rfl) (hf : X.fn x = true ∨ X.env.scope.names.lookup x = some .local := by first | exact .inl rfl | exact .inr rfl | assumption) :
    PS X (.Assign [.Name x pos'] e pos) (tAsg te (gName i)) := by
  intro pins s σ H D I h
  refine wpAny_Assign_Name (thn (he pins s σ H _ I h) fun v s1 ⟨y, H1, I1, r1, q1⟩ => ?_) hs
  exact store_ok I1 hN hi hx r1 (fun s2 I2 => ⟨_, H1, I2, q1⟩) hf
end
section
variable {X : Cx} {pos : Pos}
noncomputable def tWhile (c : TT) (tb : TS) : TS := fun D σ H => ∃ W : Nat → St → Hp → Prop, (∃ m, W m σ H) ∧ ∀ m σ H, W m σ H →
  c σ H fun b H1 => if b = true then ∃ N : St → Hp → Prop, (∀ σ' H', N σ' H' → ∃ m', m' < m ∧ W m' σ' H') ∧ tb { D with nx := N, ct := N, bk := D.nx } σ H1 else D.nx σ H1
theorem ps_while {c : Expr} {body : List Stmt} {tc : TT} {tb : TS} (hp : PassesOwn (model X.prog X.w) X.A X.env X.xe) (hc : PT X c tc) (hb : PSs X body tb) : PS X (.While c body [] pos) (tWhile tc tb) := by
  intro pins s σ H D I h
  obtain ⟨W, ⟨m0, w0⟩, turn⟩ := h
  refine wpAny_While (codeAny_whileLoop (fun n s' => ∃ σ' H', Inv X pins σ' H' s' ∧ W n σ' H') ?_ m0 ⟨σ, H, I, w0⟩)
  rintro n s1 ⟨σ1, H1, I1, w1⟩
  refine wpAny_passesOwn hp (thn (hc pins s1 σ1 H1 _ I1 (turn n σ1 H1 w1)) fun b s2 ⟨H2, I2, q2⟩ => ?_)
  cases b with
  | true =>
    obtain ⟨N, hN, q2⟩ := q2
    rw [if_pos rfl]
    refine wpAny_passesOwn hp (thn (hb pins s2 σ1 H2 _ I2 q2) fun f s3 q3 => ?_)
    cases f with
    | next =>
      obtain ⟨σ3, H3, I3, n3⟩ := q3
      obtain ⟨m', hm, w3⟩ := hN σ3 H3 n3
      exact ⟨m', hm, σ3, H3, I3, w3⟩
    | cont =>
      obtain ⟨σ3, H3, I3, n3⟩ := q3
      obtain ⟨m', hm, w3⟩ := hN σ3 H3 n3
      exact ⟨m', hm, σ3, H3, I3, w3⟩
    | brk => exact q3
    | ret v => exact q3
  | false =>
    rw [if_neg Bool.false_ne_true]
    exact wpAny_execs_nil ⟨σ1, H2, I2, q2⟩
end
structure It where
  go : Nat → Hp → Prop
  yld : Nat → Hp → V → Hp → Prop
  stop : Nat → Hp → Prop
noncomputable def FpOk (X : Cx) (pins : List (Addr × Obj)) (H : Hp) (b : Addr) : Prop :=
  H b = none ∧ b ≠ X.env.locals ∧ b ∉ X.fs ∧ (b ∈ X.ex ∨ X.s₀.heap.objs.size ≤ b) ∧ (∀ x c, X.env.cells.lookup x = some c → c ≠ b) ∧ ∀ p ∈ X.pn ++ pins, p.1 ≠ b
theorem Inv.fpOk {X : Cx} {pins : List (Addr × Obj)} {σ : St} {H H' : Hp} {s : Shared} {b : Addr} (I : Inv X pins σ H s) (hb : s.heap.objs.size ≤ b) (hn : H' b = none) : FpOk X pins H' b := by
  refine ⟨hn, Nat.ne_of_gt (Nat.lt_of_lt_of_le I.lt hb), I.nofs hb, .inr (Nat.le_trans I.sz hb), fun x c e z => ?_, fun p hp z => ?_⟩
  · obtain ⟨v, q⟩ := I.cell x c e
    exact absurd (Nat.lt_of_lt_of_le q.lt (by rw [z]; exact hb)) (Nat.lt_irrefl _)
  · exact absurd (Nat.lt_of_lt_of_le (Heap.lt_size (I.pin p hp).1) (by rw [z]; exact hb)) (Nat.lt_irrefl _)
structure Turn (P : Program) (w : World) (K : PySem.W.Frag) (tg : Expr) (J : It) (fp : List Addr) (it : Addr) (tn : Nat → Heap → Prop) : Prop where
  mem : it ∈ fp
  obj : ∀ i h, tn i h → ∀ b ∈ fp, ∃ o, h.get? b = some o ∧ ∀ v, o.data ≠ .cell v
  keep : ∀ i h h', tn i h → (∀ b ∈ fp, ∀ o, h.get? b = some o → h'.get? b = some o) → tn i h'
  item : ∀ (X : Cx), X.prog = P → X.w = w → X.K = K → X.calm = true → ∀ (i : Nat) (pins : List (Addr × Obj)) (s : Shared) (σ : St) (H : Hp) (E : Value → Shared → Prop), Inv X pins σ H s → (∀ b ∈ fp, FpOk X pins H b) → tn i s.heap → J.go i H →
    wpAny (model P w) X.A (pyNext (.ref it)) (fun r s1 => ∃ u, r = some u ∧
      wpAny (model P w) X.A (letOwnedTupleGo tg (.ref it) u) (fun _ s2 => ∃ x H', Inv X pins σ H' s2 ∧ RelV x u ∧ J.yld i H x H' ∧ tn (i + 1) s2.heap ∧ ∀ b ∈ fp, H' b = none) E s1) E s
  done : ∀ (X : Cx), X.prog = P → X.w = w → X.K = K → X.calm = true → ∀ (i : Nat) (pins : List (Addr × Obj)) (s : Shared) (σ : St) (H : Hp) (E : Value → Shared → Prop), Inv X pins σ H s → (∀ b ∈ fp, FpOk X pins H b) → tn i s.heap → J.stop i H →
    wpAny (model P w) X.A (pyNext (.ref it)) (fun r s1 => r = none ∧ Inv X pins σ H s1) E s
  self : ∀ (A : Around) (i : Nat) (s : Shared) (Q : Value → Shared → Prop) (E : Value → Shared → Prop), tn i s.heap → Q (.ref it) s → wpAny (model P w) A (pyIter (.ref it)) Q E s
noncomputable abbrev TI := St → Hp → (It → Hp → Prop) → Prop
noncomputable def PIE (X : Cx) (pins : List (Addr × Obj)) (σ : St) (tg : Expr) (R : It → Hp → Prop) (itv : Value) (s2 : Shared) : Prop :=
  ∃ (it : Addr) (fp : List Addr) (tn : Nat → Heap → Prop) (J : It) (H' : Hp), itv = .ref it ∧ Inv X pins σ H' s2 ∧ Turn X.prog X.w X.K tg J fp it tn ∧ tn 0 s2.heap ∧ (∀ b ∈ fp, FpOk X pins H' b) ∧ R J H'
noncomputable def PI (X : Cx) (tg iter : Expr) (wi : TI) : Prop :=
  ∀ (pins : List (Addr × Obj)) (s : Shared) (σ : St) (H : Hp) (R : It → Hp → Prop), Inv X pins σ H s → wi σ H R →
    wpAny (model X.prog X.w) X.A (eval iter X.env) (fun v s1 => wpAny (model X.prog X.w) X.A (pyIter v) (PIE X pins σ tg R) X.xe s1) X.xe s
theorem go_of {M : Model} {A : Around} {E : Value → Shared → Prop} {s : Shared} {tg : Expr} {it : Addr} {u : Value} {o : Obj} {n : String} {vs : Array Value} {Q : Unit → Shared → Prop} (ho : s.heap.get? it = some o) (hc : o.cls = .type n) (hd : o.data = .fields vs)
    (hn : ["enumerate", "zip", "dict_itemiterator", "dict_reverseitemiterator", "odict_iterator", "itertools.zip_longest", "itertools.pairwise"].contains n = false) (hQ : Q () s) : wpAny M A (letOwnedTupleGo tg (.ref it) u) Q E s := by
  unfold letOwnedTupleGo
  cases tg <;> first
    | exact wpAny_pure hQ
    | (cases u <;> first
        | exact wpAny_pure hQ
        | (refine wpAny_bind (wpAny_load ho ?_)
           rw [hc, hd]
           show wpAny M A (if (["enumerate", "zip", "dict_itemiterator", "dict_reverseitemiterator", "odict_iterator", "itertools.zip_longest", "itertools.pairwise"].contains n && vs[0]? == some (rawInt _)) = true then _ else _) Q E s
           rw [if_neg (by intro h; rw [hn, Bool.false_and] at h; cases h)]
           exact wpAny_pure hQ))
noncomputable def Itl (K : PySem.W.Frag) (a : Addr) : It :=
  ⟨fun i H => ∃ xs x, SqL K H a xs ∧ xs[i]? = some x, fun i H x H' => H' = H ∧ ∀ xs, SqL K H a xs → xs[i]? = some x, fun i H => ∃ xs, SqL K H a xs ∧ xs.length ≤ i⟩
noncomputable def Itr (lo : Int) (n : Nat) : It := ⟨fun i _ => i < n, fun i H x H' => H' = H ∧ x = .int (lo + i), fun i _ => n ≤ i⟩
theorem turn_list {P : Program} {w : World} {K : PySem.W.Frag} {tg : Expr} (a it : Addr) : Turn P w K tg (Itl K a) [it] it (fun i h => h.IsListIter it a i) where
  mem := by simp
  obj := fun i h st b hb => by
    have e : b = it := by simpa using hb
    subst e
    obtain ⟨o, e, c, d⟩ := st
    exact ⟨o, e, fun v z => by rw [d] at z; cases z⟩
  keep := fun i h h' st k => st.at fun o e => k it (by simp) o e
  item := by
    intro X hP hw hK hc i pins s σ H E I hf st hg
    subst hP hw hK
    obtain ⟨xs, x, hq, hx⟩ := hg
    obtain ⟨its, rv, p, hz⟩ := I.list hq
    obtain ⟨u, hu, ru⟩ := rv.get hx
    obtain ⟨f0, f1, f2, f3, f4, f5⟩ := hf it (by simp)
    refine wpAny_pyNext_list_item st p.isList (x := u) (by simpa using hu) fun h' st' sb => ?_
    have I1 : Inv X pins σ H { s with heap := h' } := I.turned (t' := s.toks) (fun b o hb e => (sb.2 b hb).trans e) f0 f1 f3 f4 f5
    obtain ⟨o, e, c, d⟩ := id st'
    exact ⟨u, rfl, go_of (s := { s with heap := h' }) e c d (by decide) ⟨x, H, I1, ru, ⟨rfl, fun ys hy => by rw [I.list_inj hy hq]; exact hx⟩, st', fun b hb => (hf b hb).1⟩⟩
  done := by
    intro X hP hw hK hc i pins s σ H E I hf st hg
    subst hP hw hK
    obtain ⟨xs, hq, hx⟩ := hg
    obtain ⟨its, rv, p, hz⟩ := I.list hq
    obtain ⟨f0, f1, f2, f3, f4, f5⟩ := hf it (by simp)
    have hl := rv.length
    exact wpAny_pyNext_list_end (I.ok.hd hc) st p.isList (by simp; lia) fun h' eb => ⟨rfl, I.turned (t' := s.toks) (fun b o hb e => eb b o hb e) f0 f1 f3 f4 f5⟩
  self := fun _ _ _ _ _ st h => wpAny_pyIter_listiter st h
theorem turn_range {P : Program} {w : World} {K : PySem.W.Frag} {tg : Expr} (it : Addr) (lo : Int) (n : Nat) : Turn P w K tg (Itr lo n) [it] it (fun i h => IsRangeIter h it (lo + (i : Nat) * 1) ((n : Int) - (i : Nat)) 1) where
  mem := by simp
  obj := fun i h st b hb => by
    have e : b = it := by simpa using hb
    subst e
    exact ⟨_, st, fun v z => by
      have z' : Data.fields _ = Data.cell v := z
      cases z'⟩
  keep := fun i h h' st k => k it (by simp) _ st
  item := by
    intro X hP hw hK hc i pins s σ H E I hf st hg
    subst hP hw hK
    obtain ⟨f0, f1, f2, f3, f4, f5⟩ := hf it (by simp)
    have W := Walks.range (prog := X.prog) (w := X.w) (I.ok.hd hc) it lo 1 n
    refine W.item i s _ _ hg st fun v h' tk hv st' kk => ?_
    obtain ⟨t, rfl⟩ := hv
    have I1 : Inv X pins σ H { s with heap := h', toks := tk } := I.turned (fun b o hb e => kk b o (by simpa using hb) e) f0 f1 f3 f4 f5
    refine ⟨_, rfl, go_of (s := { s with heap := h', toks := tk }) (n := "range_iterator") st' rfl rfl (by decide) ⟨.int (lo + i), H, I1, ⟨t, ?_⟩, ⟨rfl, rfl⟩, st', fun b hb => (hf b hb).1⟩⟩
    rw [Int.mul_one]
  done := by
    intro X hP hw hK hc i pins s σ H E I hf st hg
    subst hP hw hK
    obtain ⟨f0, f1, f2, f3, f4, f5⟩ := hf it (by simp)
    exact wpAny_pyNext_range_end (I.ok.hd hc) st (by have : n ≤ i := hg; lia) fun h' eb => ⟨rfl, I.turned (t' := s.toks) (fun b o hb e => eb b o hb e) f0 f1 f3 f4 f5⟩
  self := fun _ _ _ _ _ st h => wpAny_pyIter_rangeiter st h
end L2
namespace L2
open PySem PySem.Spec PyProof.Rows
section
variable {X : Cx} {tg : Expr}
noncomputable def iList (K : PySem.W.Frag) (tl : TE) : TI := fun σ H R => tl σ H fun x H1 => ∃ a, x = .ref a ∧ (∃ xs, SqL K H1 a xs) ∧ R (Itl K a) H1
theorem pi_list {l : Expr} {tl : TE} (hl : PE X l tl) : PI X tg l (iList X.K tl) := by
  intro pins s σ H R I h
  refine thn (hl pins s σ H _ I h) fun v s1 ⟨x, H1, I1, r1, q1⟩ => ?_
  obtain ⟨a, e, ⟨xs, hq⟩, q⟩ := q1
  subst e
  cases r1
  obtain ⟨its, rv, p, hz⟩ := I1.list hq
  refine wpAny_pyIter_list p.isList ?_
  refine ⟨s1.heap.objs.size, [s1.heap.objs.size], _, _, H1, rfl, I1.kept (t' := s1.toks) fun b o e => Heap.get?_push_of_some _ e, turn_list a _, ⟨_, Heap.get?_push_size _ rfl, rfl, rfl⟩, fun b hb => ?_, q⟩
  have e : b = s1.heap.objs.size := by simpa using hb
  subst e
  exact I1.fpOk (Nat.le_refl _) (I1.hok.fresh (Nat.le_refl _))
theorem range_it {pins : List (Addr × Obj)} {σ : St} {H : Hp} {s : Shared} {R : It → Hp → Prop} {E : Value → Shared → Prop} {lo hi : Int} {t u v : Tok} {tk : Nat} (I : Inv X pins σ H s) (h1 : -(2 ^ 62) ≤ lo) (h2 : lo < 2 ^ 62) (h3 : -(2 ^ 62) ≤ hi) (h4 : hi < 2 ^ 62)
    (q : R (Itr lo (hi - lo).toNat) H) : wpAny (model X.prog X.w) X.A (pyIter (.ref s.heap.objs.size)) (PIE X pins σ tg R) E { s with heap := s.heap.push { cls := .type "range", data := .fields #[.int lo t, .int hi u, .int 1 v] }, toks := tk } := by
  refine wpAny_pyIter_range (IsRange.new ..) (small_one h1 h2 h3 h4) ?_
  have I1 : Inv X pins σ H { s with heap := s.heap.push { cls := .type "range", data := .fields #[.int lo t, .int hi u, .int 1 v] }, toks := tk } := I.kept fun b o e => Heap.get?_push_of_some _ e
  refine ⟨(s.heap.push { cls := .type "range", data := .fields #[.int lo t, .int hi u, .int 1 v] }).objs.size, [(s.heap.push { cls := .type "range", data := .fields #[.int lo t, .int hi u, .int 1 v] }).objs.size], _, _, H, rfl,
    I1.kept (t' := tk) fun b o e => Heap.get?_push_of_some _ e, turn_range _ lo (hi - lo).toNat, ?_, fun b hb => ?_, q⟩
  · have e1 : lo + ((0 : Nat) : Int) * 1 = lo := by simp
    have e2 : (((hi - lo).toNat : Nat) : Int) - ((0 : Nat) : Int) = Builtin.Range.rangeSize lo hi 1 := by rw [rangeSize_one]; split <;> lia
    show IsRangeIter _ _ (lo + ((0 : Nat) : Int) * 1) ((((hi - lo).toNat : Nat) : Int) - ((0 : Nat) : Int)) 1
    rw [e1, e2]
    exact Heap.get?_push_size _ rfl
  · have e : b = (s.heap.push { cls := .type "range", data := .fields #[.int lo t, .int hi u, .int 1 v] }).objs.size := by simpa using hb
    subst e
    exact I1.fpOk (Nat.le_refl _) (I1.hok.fresh (Nat.le_refl _))
noncomputable def iRng1 (ta : TA) : TI := fun σ H R => ta σ H fun vs H1 => ∃ j : Int, vs = [.int j] ∧ -(2 ^ 62) ≤ j ∧ j < 2 ^ 62 ∧ R (Itr 0 j.toNat) H1
noncomputable def iRng2 (ta : TA) : TI := fun σ H R => ta σ H fun vs H1 => ∃ i j : Int, vs = [.int i, .int j] ∧ (-(2 ^ 62) ≤ i ∧ i < 2 ^ 62 ∧ -(2 ^ 62) ≤ j ∧ j < 2 ^ 62) ∧ R (Itr i (j - i).toNat) H1
theorem pi_range1 {a : Expr} {ta : TA} {p pos : Pos} (hg : Gl X "range") (hm : X.mg "range" = none) (ha : PA X [a] ta) (hs : starEach [a] X.env = [(false, eval a X.env)] := by rfl) : PI X tg (.Call (.Name "range" p) [a] [] pos) (iRng1 ta) := by
  intro pins s σ H R I h
  refine Call_ (ld_blt I hg hm boot_range (PyProof.Rows.callWith_type1 (thn (ha pos pins s σ H _ I h) fun us s1 ⟨vs, H1, I1, r1, q1⟩ => ?_) hs rfl))
  obtain ⟨j, e, q1, q2, q⟩ := q1
  subst e
  cases r1 with
  | cons r rr =>
    cases rr
    obtain ⟨t, rfl⟩ := r
    exact call_range_1 (range_it I1 (by lia) (by lia) q1 q2 (by simpa using q))
theorem pi_range2 {a b : Expr} {ta : TA} {p pos : Pos} (hg : Gl X "range") (hm : X.mg "range" = none) (ha : PA X [a, b] ta) (hs : starEach [a, b] X.env = [(false, eval a X.env), (false, eval b X.env)] := by rfl) (hs2 : starEach [b] X.env = [(false, eval b X.env)] := by rfl) :
    PI X tg (.Call (.Name "range" p) [a, b] [] pos) (iRng2 ta) := by
  intro pins s σ H R I h
  refine Call_ (ld_blt I hg hm boot_range (PyProof.Rows.callWith_type1 (thn (ha pos pins s σ H _ I h) fun us s1 ⟨vs, H1, I1, r1, q1⟩ => ?_) (by rw [hs, hs2]) (by rw [hs2]; rfl)))
  obtain ⟨i, j, e, ⟨q1, q2, q3, q4⟩, q⟩ := q1
  subst e
  cases r1 with
  | cons r rr =>
    cases rr with
    | cons r' rr =>
      cases rr
      obtain ⟨t, rfl⟩ := r
      obtain ⟨t', rfl⟩ := r'
      exact call_range_2 (range_it I1 q1 q2 q3 q4 q)
noncomputable def tFor (wi : TI) (g : TG) (tb : TS) : TS := fun D σ H => wi σ H fun J H1 => ∃ W : Nat → Nat → St → Hp → Prop, (∃ m, W 0 m σ H1) ∧ ∀ i m σ H, W i m σ H →
  (J.stop i H ∧ D.nx σ H) ∨ (J.go i H ∧ ∃ N : St → Hp → Prop, (∀ σ' H', N σ' H' → ∃ m', m' < m ∧ W (i + 1) m' σ' H') ∧ ∀ x H', J.yld i H x H' → g x σ H' fun σ2 H2 => tb { D with nx := N, ct := N, bk := D.nx } σ2 H2)
noncomputable def pinsAt (fp : List Addr) (h : Heap) : List (Addr × Obj) := fp.filterMap fun b => (h.get? b).map fun o => (b, o)
theorem mem_pinsAt {fp : List Addr} {h : Heap} {b : Addr} {o : Obj} (hb : b ∈ fp) (e : h.get? b = some o) : (b, o) ∈ pinsAt fp h := List.mem_filterMap.mpr ⟨b, hb, by rw [e]; rfl⟩
theorem of_pinsAt {fp : List Addr} {h : Heap} {p : Addr × Obj} (hp : p ∈ pinsAt fp h) : p.1 ∈ fp ∧ h.get? p.1 = some p.2 := by
  obtain ⟨b, hb, e⟩ := List.mem_filterMap.mp hp
  cases q : h.get? b with
  | none => rw [q] at e; cases e
  | some o =>
    rw [q] at e
    have e' : (b, o) = p := Option.some.inj e
    subst e'
    exact ⟨hb, q⟩
theorem Inv.pinned {pins : List (Addr × Obj)} {σ : St} {H : Hp} {s : Shared} {fp : List Addr} (I : Inv X pins σ H s) (hf : ∀ b ∈ fp, FpOk X pins H b) (ho : ∀ b ∈ fp, ∃ o, s.heap.get? b = some o ∧ ∀ v, o.data ≠ .cell v) : Inv X (pins ++ pinsAt fp s.heap) σ H s :=
  I.pins_of fun p hp => (List.mem_append.mp hp).elim (fun z => I.pin p (List.mem_append_right _ z)) fun z => by
    obtain ⟨hb, e⟩ := of_pinsAt z
    obtain ⟨f0, f1, f2, _⟩ := hf p.1 hb
    obtain ⟨o, e', d⟩ := ho p.1 hb
    rw [e] at e'; cases e'
    exact ⟨e, f0, f1, f2, d⟩
theorem Inv.unpinned {pins pl : List (Addr × Obj)} {σ : St} {H : Hp} {s : Shared} (I : Inv X (pins ++ pl) σ H s) : Inv X pins σ H s := I.pins_of fun p hp => I.pin p (List.mem_append_right _ (List.mem_append_left _ hp))
theorem ps_for {iter : Expr} {body : List Stmt} {wi : TI} {g : TG} {tb : TS} {pos : Pos} (hp : PassesOwn (model X.prog X.w) X.A X.env X.xe) (hc : X.calm = true) (hi : PI X tg iter wi) (hg : PG X tg g) (hb : PSs X body tb)
    (hs : ∀ x, foldedSetIterable iter X.env x = pure x := by intro _; rfl) : PS X (.For tg iter body [] pos) (tFor wi g tb) := by
  intro pins s σ H D I h
  refine wpAny_For (thn (hi pins s σ H _ I h) fun v s1 h1 => thn h1 fun itv s2 h2 => ?_) hs
  obtain ⟨it, fp, tn, J, H2, e, I2, T, st2, f2, W, ⟨m0, w0⟩, turn⟩ := h2
  subst e
  have stat : ∀ {H' : Hp}, (∀ b ∈ fp, H' b = none) → ∀ b ∈ fp, FpOk X pins H' b := fun hn b hb => ⟨hn b hb, (f2 b hb).2⟩
  refine codeAny_forLoop_any (fun n s' => ∃ i σ' H', Inv X pins σ' H' s' ∧ tn i s'.heap ∧ (∀ b ∈ fp, H' b = none) ∧ W i n σ' H') ?_ m0 ⟨0, σ, H2, I2, st2, fun b hb => (f2 b hb).1, w0⟩
  rintro n s3 ⟨i, σ3, H3, I3, st3, fr3, w3⟩
  rcases turn i n σ3 H3 w3 with ⟨stop, qn⟩ | ⟨go, N, hN, step⟩
  · refine wpAny_passesOwn hp (thn (T.done X rfl rfl rfl hc i pins s3 σ3 H3 X.xe I3 (stat fr3) st3 stop) fun r s4 ⟨hr, I4⟩ => ?_)
    subst hr
    exact wpAny_execs_nil ⟨σ3, H3, I4, qn⟩
  · refine wpAny_passesOwn hp (thn (T.item X rfl rfl rfl hc i pins s3 σ3 H3 X.xe I3 (stat fr3) st3 go) fun r s4 ⟨u, hr, h4⟩ => ?_)
    subst hr
    refine wpAny_passesOwn hp (thn h4 fun _ s5 ⟨x, H5, I5, r5, y5, st5, fr5⟩ => ?_)
    have I5' := I5.pinned (stat fr5) (T.obj _ _ st5)
    refine wpAny_passesOwn hp (thn (hg _ s5 σ3 H5 x u _ I5' r5 (step x H5 y5)) fun _ s6 ⟨σ6, H6, I6, q6⟩ => ?_)
    refine wpAny_passesOwn hp (thn (hb _ s6 σ6 H6 _ I6 q6) fun f s7 q7 => ?_)
    have again : ∀ {σ7 : St} {H7 : Hp}, Inv X (pins ++ pinsAt fp s5.heap) σ7 H7 s7 → N σ7 H7 → ∃ m, m < n ∧ ∃ i σ' H', Inv X pins σ' H' s7 ∧ tn i s7.heap ∧ (∀ b ∈ fp, H' b = none) ∧ W i m σ' H' := fun {σ7 H7} I7 n7 => by
      obtain ⟨m', hm, w7⟩ := hN σ7 H7 n7
      refine ⟨m', hm, i + 1, σ7, H7, I7.unpinned, T.keep _ _ _ st5 fun b hb o e => (I7.pin (b, o) (List.mem_append_right _ (List.mem_append_right _ (mem_pinsAt hb e)))).1, fun b hb => ?_, w7⟩
      obtain ⟨o, e, d⟩ := T.obj _ _ st5 b hb
      exact (I7.pin (b, o) (List.mem_append_right _ (List.mem_append_right _ (mem_pinsAt hb e)))).2.1
    cases f with
    | next => obtain ⟨σ7, H7, I7, n7⟩ := q7; exact again I7 n7
    | cont => obtain ⟨σ7, H7, I7, n7⟩ := q7; exact again I7 n7
    | brk => obtain ⟨σ7, H7, I7, q7⟩ := q7; exact ⟨σ7, H7, I7.unpinned, q7⟩
    | ret v => obtain ⟨x7, σ7, H7, I7, r7, q7⟩ := q7; exact ⟨x7, σ7, H7, I7.unpinned, r7, q7⟩
end
end L2
namespace L2
open PySem PySem.Spec PyProof.Rows
noncomputable abbrev R2 := V → V → Hp → VK → Prop
noncomputable def OpR (X : Cx) (f : Value → Value → Sem Value) (r : R2) : Prop :=
  ∀ (pins : List (Addr × Obj)) (s : Shared) (σ : St) (H : Hp) (x y : V) (v u : Value) (Q : VK), Inv X pins σ H s → RelV x v → RelV y u → r x y H Q →
    wpAny (model X.prog X.w) X.A (f v u) (EP X pins σ Q) X.xe s
noncomputable def UnR (X : Cx) (f : Value → Sem Value) (r : V → Hp → VK → Prop) : Prop :=
  ∀ (pins : List (Addr × Obj)) (s : Shared) (σ : St) (H : Hp) (x : V) (v : Value) (Q : VK), Inv X pins σ H s → RelV x v → r x H Q →
    wpAny (model X.prog X.w) X.A (f v) (EP X pins σ Q) X.xe s
noncomputable def CallR (X : Cx) (f : Value) (r : List V → Hp → VK → Prop) : Prop :=
  ∀ (pins : List (Addr × Obj)) (s : Shared) (σ : St) (H : Hp) (xs : List V) (us : List Value) (Q : VK), Inv X pins σ H s → Vals xs us → r xs H Q →
    wpAny (model X.prog X.w) X.A (call f us) (EP X pins σ Q) X.xe s
noncomputable def TruR (X : Cx) (r : V → Hp → (Bool → Hp → Prop) → Prop) : Prop :=
  ∀ (pins : List (Addr × Obj)) (s : Shared) (σ : St) (H : Hp) (x : V) (v : Value) (Q : Bool → Hp → Prop), Inv X pins σ H s → RelV x v → r x H Q →
    wpAny (model X.prog X.w) X.A (truthy v) (TP X pins σ Q) X.xe s
noncomputable def tOp (r : R2) (ta tb : TE) : TE := fun σ H Q => ta σ H fun x H1 => tb σ H1 fun y H2 => r x y H2 Q
noncomputable def tUn (r : V → Hp → VK → Prop) (ta : TE) : TE := fun σ H Q => ta σ H fun x H1 => r x H1 Q
noncomputable def rI (C : Int → Int → Prop) (g : Int → Int → V) : R2 := fun x y H Q => ∃ i j, x = .int i ∧ y = .int j ∧ C i j ∧ Q (g i j) H
noncomputable def rI0 (g : Int → Int → V) : R2 := fun x y H Q => ∃ i j, x = .int i ∧ y = .int j ∧ Q (g i j) H
noncomputable def rU (g : Int → V) : V → Hp → VK → Prop := fun x H Q => ∃ i, x = .int i ∧ Q (g i) H
section
variable {X : Cx} {a b c : Expr} {ta tb tc : TE} {pos : Pos}
theorem binT (ha : PE X a ta) (hb : PE X b tb) {pins : List (Addr × Obj)} {s : Shared} {σ : St} {H : Hp} {R : V → V → Hp → Prop} (I : Inv X pins σ H s)
    (h : ta σ H fun x H1 => tb σ H1 fun y H2 => R x y H2) {Q : Value → Shared → Prop} {f : Value → Value → Sem Value}
    (hf : ∀ v u s2 x y H2, Inv X pins σ H2 s2 → RelV x v → RelV y u → R x y H2 → wpAny (model X.prog X.w) X.A (f v u) Q X.xe s2) :
    wpAny (model X.prog X.w) X.A (eval a X.env) (fun v s₁ => wpAny (model X.prog X.w) X.A (eval b X.env) (fun u s₂ => wpAny (model X.prog X.w) X.A (f v u) Q X.xe s₂) X.xe s₁) X.xe s := by
  refine thn (ha pins s σ H _ I h) fun v s1 ⟨x, H1, I1, r1, q1⟩ => ?_
  refine thn (hb pins s1 σ H1 _ I1 q1) fun u s2 ⟨y, H2, I2, r2, q2⟩ => ?_
  exact hf v u s2 x y H2 I2 r1 r2 q2
theorem pe_un {op : UnaryOp} {r : V → Hp → VK → Prop} (ho : UnR X (unaryOp op) r) (ha : PE X a ta) : PE X (.UnaryOp op a pos) (tUn r ta) := by
  intro pins s σ H Q I h
  exact UnaryOp_ (thn (ha pins s σ H _ I h) fun v s1 ⟨x, H1, I1, r1, q1⟩ => ho pins s1 σ H1 x v Q I1 r1 q1)
theorem opI {f : Value → Value → Sem Value} {C : Int → Int → Prop} {g : Int → Int → Int}
    (rule : ∀ (i j : Int) (t u : Tok) (s : Shared) (Q : Value → Shared → Prop) (E : Value → Shared → Prop), C i j → Q (.int (g i j) s.toks) { s with toks := s.toks + 1 } → wpAny (model X.prog X.w) X.A (f (.int i t) (.int j u)) Q E s) :
    OpR X f (rI C fun i j => .int (g i j)) := by
  intro pins s σ H x y v u Q I rx ry h
  obtain ⟨i, j, rfl, rfl, hc, q⟩ := h
  obtain ⟨t, rfl⟩ := rx
  obtain ⟨t', rfl⟩ := ry
  exact rule i j t t' s _ _ hc ⟨.int (g i j), H, I.tok _, ⟨_, rfl⟩, q⟩
theorem opI0 {f : Value → Value → Sem Value} {g : Int → Int → Int}
    (rule : ∀ (i j : Int) (t u : Tok) (s : Shared) (Q : Value → Shared → Prop) (E : Value → Shared → Prop), Q (.int (g i j) s.toks) { s with toks := s.toks + 1 } → wpAny (model X.prog X.w) X.A (f (.int i t) (.int j u)) Q E s) :
    OpR X f (rI0 fun i j => .int (g i j)) := by
  intro pins s σ H x y v u Q I rx ry h
  obtain ⟨i, j, rfl, rfl, q⟩ := h
  obtain ⟨t, rfl⟩ := rx
  obtain ⟨t', rfl⟩ := ry
  exact rule i j t t' s _ _ ⟨.int (g i j), H, I.tok _, ⟨_, rfl⟩, q⟩
theorem opB0 {f : Value → Value → Sem Value} {g : Int → Int → Bool}
    (rule : ∀ (i j : Int) (t u : Tok) (s : Shared) (Q : Value → Shared → Prop) (E : Value → Shared → Prop), Q (.bool (g i j)) s → wpAny (model X.prog X.w) X.A (f (.int i t) (.int j u)) Q E s) :
    OpR X f (rI0 fun i j => .bl (g i j)) := by
  intro pins s σ H x y v u Q I rx ry h
  obtain ⟨i, j, rfl, rfl, q⟩ := h
  obtain ⟨t, rfl⟩ := rx
  obtain ⟨t', rfl⟩ := ry
  exact rule i j t t' s _ _ ⟨.bl (g i j), H, I, rfl, q⟩
noncomputable def CDiv (i j : Int) : Prop := 0 < j ∧ j < 1073741824
noncomputable def CMul (i j : Int) : Prop := (-(2 ^ 64) < i ∧ i < 2 ^ 64) ∨ (-(2 ^ 64) < j ∧ j < 2 ^ 64)
theorem CMul.ok {i j : Int} (h : CMul i j) : IntMulOk i j := by
  rcases h with ⟨h1, h2⟩ | ⟨h1, h2⟩
  · exact .of_left (intBits_le_64 h1 h2)
  · exact .of_right (intBits_le_64 h1 h2)
theorem op_add : OpR X (binaryOp .Add) (rI0 fun i j => .int (i + j)) := opI0 fun _ _ _ _ _ _ _ q => add_int q
theorem op_sub : OpR X (binaryOp .Sub) (rI0 fun i j => .int (i - j)) := opI0 fun _ _ _ _ _ _ _ q => sub_int q
theorem op_mul : OpR X (binaryOp .Mult) (rI CMul fun i j => .int (i * j)) := opI fun _ _ _ _ _ _ _ hc q => mul_int q hc.ok
theorem op_fdiv : OpR X (binaryOp .FloorDiv) (rI CDiv fun i j => .int (i / j)) := opI fun i j _ _ _ _ _ hc q => by
  have h1 : (0 : Int) < j := hc.1
  have h2 : j < 1073741824 := hc.2
  exact floordiv_int (by lia) (by rw [Int.fdiv_eq_ediv_of_nonneg i (by lia)]; exact q) (.inl (PyProof.noPylong_small (by lia)))
theorem op_mod : OpR X (binaryOp .Mod) (rI (fun _ j => 0 < j) fun i j => .int (i % j)) := opI fun i j _ _ _ _ _ hc q => by
  have h1 : (0 : Int) < j := hc
  exact mod_int' (by lia) (by rw [Int.fmod_eq_emod_of_nonneg i (by lia)]; exact q)
theorem unI {f : Value → Sem Value} {g : Int → Int}
    (rule : ∀ (i : Int) (t : Tok) (s : Shared) (Q : Value → Shared → Prop) (E : Value → Shared → Prop), Q (.int (g i) s.toks) { s with toks := s.toks + 1 } → wpAny (model X.prog X.w) X.A (f (.int i t)) Q E s) :
    UnR X f (rU fun i => .int (g i)) := by
  intro pins s σ H x v Q I rx h
  obtain ⟨i, rfl, q⟩ := h
  obtain ⟨t, rfl⟩ := rx
  exact rule i t s _ _ ⟨.int (g i), H, I.tok _, ⟨_, rfl⟩, q⟩
theorem un_neg : UnR X (unaryOp .USub) (rU fun i => .int (-i)) := unI fun _ _ _ _ _ q => neg_int q
end
section
variable {X : Cx} {a b c : Expr} {ta tb tc : TE} {pos : Pos}
theorem op_lt : OpR X (compareOp .Lt) (rI0 fun i j => .bl (decide (i < j))) := opB0 fun _ _ _ _ _ _ _ q => lt_int q
theorem op_le : OpR X (compareOp .LtE) (rI0 fun i j => .bl (decide (i ≤ j))) := opB0 fun _ _ _ _ _ _ _ q => le_int q
theorem op_gt : OpR X (compareOp .Gt) (rI0 fun i j => .bl (decide (j < i))) := opB0 fun _ _ _ _ _ _ _ q => gt_int q
theorem OpR.or {f : Value → Value → Sem Value} {r r' : R2} (h : OpR X f r) (h' : OpR X f r') : OpR X f (fun x y H Q => r x y H Q ∨ r' x y H Q) := by
  intro pins s σ H x y v u Q I rx ry q
  rcases q with q | q
  · exact h pins s σ H x y v u Q I rx ry q
  · exact h' pins s σ H x y v u Q I rx ry q
theorem nomark (b : Expr) {op : CmpOp} (h : op ≠ .In := by decide) (h2 : op ≠ .NotIn := by decide) : behindInMarks op b = false := by
  have e1 : (op == CmpOp.In) = false := by cases op <;> first | rfl | exact absurd rfl h
  have e2 : (op == CmpOp.NotIn) = false := by cases op <;> first | rfl | exact absurd rfl h2
  cases b <;> simp [behindInMarks, e1, e2]
noncomputable def TruV (K : PySem.W.Frag) (x : V) (H : Hp) (k : Bool) : Prop :=
  match x with
  | .non => k = false
  | .bl b => k = b
  | .int i => k = (i != 0)
  | .str y => y.length ≤ sizeLine ∧ k = ((y.length : Int) != 0)
  | .byt y => y.size ≤ sizeLine ∧ k = ((y.size : Int) != 0)
  | .ref p => (∃ xs, SqL K H p xs ∧ k = !xs.isEmpty) ∨ (∃ xs, SqT K H p xs ∧ k = !xs.isEmpty) ∨ ∃ kvs, H p = some (.dK kvs) ∧ k = !kvs.isEmpty
  | _ => False
theorem isEmpty_kv {κ : Type} {kvs : List (κ × V)} {vs : List (κ × Value)} (r : KV kvs vs) : (!vs.isEmpty) = !kvs.isEmpty := by
  cases r <;> rfl
theorem isEmpty_of {xs : List V} {its : List Value} (r : Vals xs its) : (!its.toArray.isEmpty) = !xs.isEmpty := by
  cases r <;> simp
theorem line63 : (sizeLine : Nat) < 2 ^ 63 := by rw [sizeLine_eq]; decide
theorem tru_ok : TruR X (fun x H Q => ∃ k, TruV X.K x H k ∧ Q k H) := by
  intro pins s σ H x v Q I rx h
  obtain ⟨k, e, q⟩ := h
  have hl := line63
  have hs : sizeLine = 16777216 := sizeLine_eq
  cases x with
  | non =>
    cases rx
    have e' : k = false := e
    subst e'
    exact truthy_none ⟨H, I, q⟩
  | bl b =>
    cases rx
    have e' : k = b := e
    subst e'
    exact wpAny_truthy_bool ⟨H, I, q⟩
  | int i =>
    obtain ⟨t, rfl⟩ := rx
    have e' : k = (i != 0) := e
    subst e'
    exact PySem.P.truthy_int ⟨H, I, q⟩
  | str y =>
    obtain ⟨t, rfl⟩ := rx
    obtain ⟨hy, e'⟩ : y.length ≤ sizeLine ∧ k = ((y.length : Int) != 0) := e
    subst e'
    exact PySem.P.truthy_str (by lia) ⟨H, I.tok _, q⟩
  | byt y =>
    obtain ⟨t, rfl⟩ := rx
    obtain ⟨hy, e'⟩ : y.size ≤ sizeLine ∧ k = ((y.size : Int) != 0) := e
    subst e'
    exact PySem.W.truthy_bytes (by lia) ⟨H, I.tok _, q⟩
  | ref p =>
    cases rx
    have e' : (∃ xs, SqL X.K H p xs ∧ k = !xs.isEmpty) ∨ (∃ xs, SqT X.K H p xs ∧ k = !xs.isEmpty) ∨ ∃ kvs, H p = some (.dK kvs) ∧ k = !kvs.isEmpty := e
    rcases e' with ⟨xs, hx, e'⟩ | ⟨xs, hx, e'⟩ | ⟨kvs, hx, e'⟩
    · subst e'
      obtain ⟨its, r, pl, hz⟩ := I.list hx
      have hlen := r.length
      exact wpAny_truthy_list pl.isList (by simp only [List.size_toArray]; lia) ⟨H, I.tok _, by rw [isEmpty_of r]; exact q⟩
    · subst e'
      obtain ⟨its, r, pl, hz⟩ := I.tuple hx
      have hlen := r.length
      exact truthy_tuple pl (by simp only [List.size_toArray]; lia) ⟨H, I.tok _, by rw [isEmpty_of r]; exact q⟩
    · subst e'
      obtain ⟨hz, hS, vs, r, m⟩ : kvs.length ≤ sizeLine ∧ (p == sysModules) = false ∧ ∃ vs, KV kvs vs ∧ s.heap.DictOf (mixKind X.prog X.w) p vs := I.hok p _ hx
      have hlen : kvs.length = vs.length := Paired.length r
      exact wpAny_truthy_dict hS m (by lia) ⟨H, I.tok _, by rw [isEmpty_kv r]; exact q⟩
  | _ => exact (show False from e).elim
theorem pt_truth (ha : PE X a ta) (he : ∀ whole, isTrue a X.env whole = (do let v ← whole; standAt a.pos; holding [v] (truthy v))) :
    PT X a (fun σ H Q => ta σ H fun x H' => ∃ k, TruV X.K x H' k ∧ Q k H') := by
  intro pins s σ H Q I h
  exact isTrue_plain (thn (ha pins s σ H _ I h) fun v s1 ⟨x, H1, I1, r1, q1⟩ => tru_ok pins s1 σ H1 x v Q I1 r1 q1) (he _)
theorem op_add_str : OpR X (binaryOp .Add) (fun x y H Q => ∃ i j, x = .str i ∧ y = .str j ∧ i.length + j.length ≤ sizeLine ∧ Q (.str (i ++ j)) H) := by
  intro pins s σ H x y v u Q I rx ry h
  obtain ⟨i, j, rfl, rfl, hz, q⟩ := h
  obtain ⟨t, rfl⟩ := rx
  obtain ⟨t', rfl⟩ := ry
  exact add_str (fun t' tk => ⟨.str (i ++ j), H, I.tok _, ⟨_, rfl⟩, q⟩) hz
theorem vals1 {x : V} {us : List Value} (r : Vals [x] us) : ∃ u, us = [u] ∧ RelV x u := by
  cases r with
  | cons r1 r2 => cases r2; exact ⟨_, rfl, r1⟩
theorem vals2 {x y : V} {us : List Value} (r : Vals [x, y] us) : ∃ u w', us = [u, w'] ∧ RelV x u ∧ RelV y w' := by
  cases r with
  | cons r1 r2 =>
    cases r2 with
    | cons r3 r4 => cases r4; exact ⟨_, _, rfl, r1, r3⟩
theorem call_min2 (hc : X.calm = true) : CallR X (.builtin "min") (fun xs H Q => ∃ i j, xs = [.int i, .int j] ∧ Q (.int (if j < i then j else i)) H) := by
  intro pins s σ H xs us Q I r h
  obtain ⟨i, j, rfl, q⟩ := h
  obtain ⟨u, w', rfl, ⟨t, rfl⟩, ⟨t', rfl⟩⟩ := vals2 r
  refine min_two_ints (I.ok.hd hc) fun h' tk k => ⟨_, H, I.kept k, ?_, q⟩
  by_cases hj : j < i
  · rw [if_pos hj, if_pos hj]; exact ⟨_, rfl⟩
  · rw [if_neg hj, if_neg hj]; exact ⟨_, rfl⟩
theorem call_str_int : CallR X (.type "str") (fun xs H Q => ∃ i, xs = [.int i] ∧ i.natAbs.log2 < 1920 ∧ Q (.str (toString i)) H) := by
  intro pins s σ H xs us Q I r h
  obtain ⟨i, rfl, hz, q⟩ := h
  obtain ⟨u, rfl, t, rfl⟩ := vals1 r
  exact PySem.P.str_of_int hz ⟨.str _, H, I.tok _, ⟨_, rfl⟩, q⟩
end
end L2
namespace L2
open PySem PySem.Spec PyProof.Rows
structure ObjM (h : Heap) (x dx C : Addr) (mA : Str → Option Value) : Prop where
  obj : h.get? x = some (PySem.W.instObj C dx)
  ns : h.Ns1 dx mA
  ne : dx ≠ x
theorem lookIn_ns {h : Heap} {dx : Addr} {mA : Str → Option Value} (n : h.Ns1 dx mA) : ∃ od, h.get? dx = some od ∧ ∀ name, PySem.W.lookIn name od = some (mA name) := by
  obtain ⟨o, es, ep, ho, hd, hk, _, hm⟩ := n
  refine ⟨o, ho, fun name => ?_⟩
  have e := hm name
  unfold nsFind findBy at e
  rw [← Array.find?_toList] at e
  unfold PySem.W.lookIn
  rw [hd]
  dsimp only
  split
  · rename_i y q
    rw [q] at e
    exact congrArg some e
  · rename_i q
    rw [q] at e
    have a : es.toList.any (·.refKey) = false := by
      rw [List.any_eq_false]
      intro y hy
      obtain ⟨z, t, hkey⟩ := hk y (Array.mem_toList_iff.mp hy)
      simp [DictEntry.refKey, hkey]
    have a' : ¬ es.toList.any (·.refKey) = true := by rw [a]; exact Bool.false_ne_true
    rw [if_neg a']
    exact congrArg some e
theorem ObjM.look {h : Heap} {x dx C : Addr} {mA : Str → Option Value} (I : ObjM h x dx C mA) : ∃ od, PySem.W.InstAt h x (PySem.W.instObj C dx) C (some od) ∧ ∀ name, PySem.W.lookIn name od = some (mA name) :=
  let ⟨od, ho, hl⟩ := lookIn_ns I.ns
  ⟨od, ⟨I.obj, rfl, rfl, ho⟩, hl⟩
section
variable {prog : Program} {w : World} {A : Around} {E : Value → Shared → Prop} {s : Shared} {K : PySem.W.Frag} {x dx C f : Addr} {mA : Str → Option Value} {name : Str} {v : Value}
theorem get_map {expr : Bool} {Q : Value → Shared → Prop} (X : K.In s.heap) (I : ObjM s.heap x dx C mA) (hg : PySem.W.plainGet K C name = true) (hh : PySem.W.hasDictIn K C = true)
    (ha : PySem.W.findIn K (.ref C) name = some none) (hv : mA name = some v) (hv' : PySem.W.handedIn v = true) (h : Q v { s with toks := s.toks + 1 }) :
    wpAny (model prog w) A (getAttr (.ref x) name expr) Q E s := by
  obtain ⟨od, J, hl⟩ := I.look
  exact PySem.W.get_value X J (PySem.W.plainGet_of hg).1 (PySem.W.findObj_own hh ha rfl (by rw [hl, hv])) hv' h
theorem set_map {ns : List Str} {Q : Unit → Shared → Prop} (X : K.In s.heap) (I : ObjM s.heap x dx C mA)
    (hs : PySem.W.findIn K (.ref C) "__setattr__" = some (some (.builtin "object.__setattr__"))) (hp : PySem.W.plainOver K C = true) (ht : PySem.W.takerIn K C name = some none) (hh : PySem.W.hasDictIn K C = true)
    (hw : PySem.Within mA ns) (hsz : ns.length ≤ sizeLine)
    (h : ∀ h', ObjM h' x dx C (fun y => if y = name then some v else mA y) → Heap.SameBut dx s.heap h' → Q () { s with heap := h', toks := s.toks + 2 }) :
    wpAny (model prog w) A (setAttr (.ref x) name v) Q E s := by
  obtain ⟨od, J, hl⟩ := I.look
  refine PySem.W.set_plain X J hs (PySem.W.osa_open (s := { s with toks := s.toks + 1 }) (r := none) X J hp ht fun b => ?_)
  obtain ⟨cd, hc, hd'⟩ := PySem.W.any_some hh
  have hx : s.heap.get? x = some ⟨.ref C, some dx, .plain, #[]⟩ := I.obj
  refine wpAny_bind (wpAny_pure (wpAny_bind (wpAny_bind (wpAny_loadPart hx (wpAny_bind (PySem.W.Looks.here (s := { s with toks := s.toks + 1 }) (PySem.W.looks_clsIn X hc) ?_))))))
  rw [hd']
  refine wpAny_pure (a := some dx) (wpAny_bind (wpAny_pure (wpAny_bind ?_)))
  refine wpAny_nsSet1 (s := { s with toks := s.toks + 1 }) I.ns fun h' hn2 hs2 => ?_
  obtain ⟨oD, esD, epD, hoD, hdD, hcD⟩ := hn2.count (PySem.Within.cons name v hw)
  refine wpAny_bind (wpAny_lookBehind hoD (by rw [hdD]; exact pastItsLine_dict (Nat.le_trans hcD (by rw [List.length_cons]; lia))) ?_)
  exact wpAny_pure (h _ ⟨(hs2.2 _ (Ne.symm I.ne)).trans I.obj, hn2, I.ne⟩ hs2)
theorem make_map {R : Result → Shared → Prop} {vs : List Value} {kw : List (Str × Value)} (X : K.In s.heap) (hm : PySem.W.makesIn K C = true)
    (hi : PySem.W.findIn K (.ref C) "__init__" = some (some (.ref f))) (hf : PySem.W.typeIn K (.ref f) = some (.type "function"))
    (h : codeAny (model prog w) (A.under (.builtin "type.__call__" ⟨.ref C :: vs, kw⟩)) (.call (.ref f) ⟨.ref (s.heap.objs.size + 1) :: vs, kw⟩) (PySem.W.InitBack (s.heap.objs.size + 1) R)
      { s with heap := (s.heap.push PySem.W.emptyDict).push (PySem.W.instObj C s.heap.objs.size) }) :
    codeAny (model prog w) A (.call (.ref C) ⟨vs, kw⟩) R s := by
  obtain ⟨hh, g, d, t, os⟩ := s
  exact PySem.W.make_core (PySem.W.makes_of X hm) (PySem.W.looks_findIn X hi) (fun self => PySem.W.bind_fn X self hf) (.inl rfl) h
end
noncomputable def putF (f : Str) (v : V) : List (Str × V) → List (Str × V)
  | [] => [(f, v)]
  | (g, x) :: r => if g = f then (g, v) :: r else (g, x) :: putF f v r
theorem lookup_putF (f g : Str) (v : V) : ∀ fs : List (Str × V), (putF f v fs).lookup g = if g = f then some v else fs.lookup g
  | [] => by
    show List.lookup g [(f, v)] = _
    by_cases h : g = f
    · have hb : (g == f) = true := beq_iff_eq.mpr h
      simp only [List.lookup, hb, if_pos h]
    · have hb : (g == f) = false := beq_eq_false_iff_ne.mpr h
      simp only [List.lookup, hb, if_neg h]
  | (k, x) :: r => by
    have ih := lookup_putF f g v r
    rw [show putF f v ((k, x) :: r) = (if k = f then (k, v) :: r else (k, x) :: putF f v r) from rfl]
    by_cases hk : k = f
    · rw [if_pos hk]
      by_cases h : g = k
      · have hb : (g == k) = true := beq_iff_eq.mpr h
        simp only [List.lookup, hb, if_pos (h.trans hk)]
      · have hb : (g == k) = false := beq_eq_false_iff_ne.mpr h
        simp only [List.lookup, hb, if_neg (fun e : g = f => h (e.trans hk.symm))]
    · rw [if_neg hk]
      by_cases h : g = k
      · have hb : (g == k) = true := beq_iff_eq.mpr h
        simp only [List.lookup, hb, if_neg (fun e : g = f => hk (h.symm.trans e))]
      · have hb : (g == k) = false := beq_eq_false_iff_ne.mpr h
        simp only [List.lookup, hb]
        exact ih
theorem keys_putF (f : Str) (v : V) : ∀ fs : List (Str × V), f ∈ (putF f v fs).map (·.1) ∧ ∀ g, g ∈ fs.map (·.1) → g ∈ (putF f v fs).map (·.1)
  | [] => ⟨by simp [putF], fun g h => by simp at h⟩
  | (k, x) :: r => by
    obtain ⟨i1, i2⟩ := keys_putF f v r
    rw [show putF f v ((k, x) :: r) = (if k = f then (k, v) :: r else (k, x) :: putF f v r) from rfl]
    by_cases hk : k = f
    · rw [if_pos hk]
      subst hk
      exact ⟨by simp, fun g h => by simpa using h⟩
    · rw [if_neg hk]
      refine ⟨?_, fun g h => ?_⟩
      · rw [List.map_cons]
        exact List.mem_cons_of_mem _ i1
      · rw [List.map_cons] at h ⊢
        rcases List.mem_cons.mp h with e | e
        · exact List.mem_cons.mpr (.inl e)
        · exact List.mem_cons_of_mem _ (i2 g e)
theorem length_putF (f : Str) (v : V) : ∀ fs : List (Str × V), (putF f v fs).length ≤ fs.length + 1
  | [] => by simp [putF]
  | (k, x) :: r => by
    have ih := length_putF f v r
    rw [show putF f v ((k, x) :: r) = (if k = f then (k, v) :: r else (k, x) :: putF f v r) from rfl]
    by_cases hk : k = f
    · rw [if_pos hk, List.length_cons, List.length_cons]; lia
    · rw [if_neg hk, List.length_cons, List.length_cons]; lia
theorem RelO.some_of {v : V} {o : Option Value} (r : RelO (some v) o) : ∃ u, o = some u ∧ RelV v u := by
  cases o with
  | none => exact (show False from r).elim
  | some u => exact ⟨u, rfl, r⟩
theorem handed_of {v : V} {u : Value} (r : RelV v u) : PySem.W.handedIn u = true := by
  cases v with
  | non => cases (show u = Value.none from r); rfl
  | bl b => cases (show u = Value.bool b from r); rfl
  | int i => obtain ⟨t, e⟩ := (show ∃ t, u = Value.int i t from r); cases e; rfl
  | str x => obtain ⟨t, e⟩ := (show ∃ t, u = Value.str x t from r); cases e; rfl
  | byt b => obtain ⟨t, e⟩ := (show ∃ t, u = Value.bytes b t from r); cases e; rfl
  | flt b => obtain ⟨t, e⟩ := (show ∃ t, u = Value.float b t from r); cases e; rfl
  | ref a => cases (show u = Value.ref a from r); rfl
  | ty n => cases (show u = Value.type n from r); rfl
section
variable {P : Program} {w : World} {H H' : Hp} {h h' : Heap} {a C dx : Addr} {fs fs' : List (Str × V)}
theorem ins_get (hok : HOk P w H h) (e : H a = some (.ins C dx fs)) : ∃ mA, ObjM h a dx C mA ∧ (∀ f, RelO (fs.lookup f) (mA f)) ∧ PySem.Within mA (fs.map (·.1)) ∧ fs.length ≤ 1000 ∧ H dx = some (.own a) := by
  obtain ⟨d, z, ne, ob, mA, n, r, q⟩ := (show ObjOk P w H h a (.ins C dx fs) from hok a _ e)
  exact ⟨mA, ⟨ob, n, ne⟩, r, q, z, d⟩
end
structure Cls (K : PySem.W.Frag) (C : Addr) : Prop where
  pg : PySem.W.plainGet K C Str.empty = true
  hd : PySem.W.hasDictIn K C = true
  po : PySem.W.plainOver K C = true
  sa : PySem.W.findIn K (.ref C) "__setattr__" = some (some (.builtin "object.__setattr__"))
theorem Cls.get {K : PySem.W.Frag} {C : Addr} (c : Cls K C) (f : Str) : PySem.W.plainGet K C f = true := c.pg
noncomputable def NoAttr (K : PySem.W.Frag) (C : Addr) (f : Str) : Prop := PySem.W.findIn K (.ref C) f = some none
theorem NoAttr.taker {K : PySem.W.Frag} {C : Addr} {f : Str} (n : NoAttr K C f) : PySem.W.takerIn K C f = some none := by
  unfold PySem.W.takerIn
  rw [show PySem.W.findIn K (.ref C) f = some none from n]
  rfl
section
variable {X : Cx} {pins : List (Addr × Obj)} {σ : St} {H : Hp} {s : Shared} {a C dx : Addr} {fs : List (Str × V)} {f : Str} {v : V} {A : Around} {E : Value → Shared → Prop}
theorem getattr_ok {b : Bool} {Q : Value → Shared → Prop} (I : Inv X pins σ H s) (e : H a = some (.ins C dx fs)) (c : Cls X.K C) (n : NoAttr X.K C f) (l : fs.lookup f = some v)
    (h : ∀ u s', Inv X pins σ H s' → RelV v u → Q u s') : wpAny (model X.prog X.w) A (getAttr (.ref a) f b) Q E s := by
  obtain ⟨mA, O, r, _, _, _⟩ := ins_get I.hok e
  obtain ⟨u, hu, ru⟩ := RelO.some_of (v := v) (o := mA f) (by rw [← l]; exact r f)
  exact get_map I.kIn O (c.get f) c.hd n hu (handed_of ru) (h u _ (I.tok _) ru)
theorem setattr_ok {y : V} {u : Value} {Q : Unit → Shared → Prop} (I : Inv X pins σ H s) (e : H a = some (.ins C dx fs)) (c : Cls X.K C) (n : NoAttr X.K C f) (hl : fs.length < 1000) (ry : RelV y u)
    (h : ∀ s', Inv X pins σ (upd H a (.ins C dx (putF f y fs))) s' → Q () s') : wpAny (model X.prog X.w) A (setAttr (.ref a) f u) Q E s := by
  obtain ⟨mA, O, r, wi, _, ho⟩ := ins_get I.hok e
  have hz : (fs.map (·.1)).length ≤ sizeLine := by rw [List.length_map, sizeLine_eq]; lia
  refine set_map I.kIn O c.sa c.po n.taker c.hd wi hz fun h' O' sb => h _ ?_
  have hd : ∃ o, h'.get? dx = some o := let ⟨o, _, _, e', _⟩ := O'.ns; ⟨o, e'⟩
  refine I.write (x := a) (e := dx) (by rw [e]; exact True.intro) (.inr ho) (fun b q hb z => (sb.2 b hb).trans z) hd ?_
  refine ⟨by rw [zqq O.ne]; exact ho, ?_, O.ne, O'.obj, _, O'.ns, fun g => ?_, fun g hg => ?_⟩
  · have := length_putF f y fs; lia
  · show RelO ((putF f y fs).lookup g) (if g = f then some u else mA g)
    rw [lookup_putF]
    by_cases q : g = f
    · rw [if_pos q, if_pos q]; exact ry
    · rw [if_neg q, if_neg q]; exact r g
  · by_cases q : g = f
    · rw [q]; exact (keys_putF f y fs).1
    · refine (keys_putF f y fs).2 g (wi g fun z => hg ?_)
      show (if g = f then some u else mA g) = none
      rw [if_neg q]; exact z
theorem Inv.made (I : Inv X pins σ H s) : Inv X pins σ (upd (upd H s.heap.objs.size (.own (s.heap.objs.size + 1))) (s.heap.objs.size + 1) (.ins C s.heap.objs.size []))
    { s with heap := (s.heap.push PySem.W.emptyDict).push (PySem.W.instObj C s.heap.objs.size) } := by
  have e1 : (s.heap.push PySem.W.emptyDict).get? s.heap.objs.size = some PySem.W.emptyDict := Heap.get?_push_size s.heap rfl
  have e2 : ((s.heap.push PySem.W.emptyDict).push (PySem.W.instObj C s.heap.objs.size)).get? (s.heap.objs.size + 1) = some (PySem.W.instObj C s.heap.objs.size) := by
    have := Heap.get?_push_size (s.heap.push PySem.W.emptyDict) (o := PySem.W.instObj C s.heap.objs.size) rfl
    rwa [Heap.size_push] at this
  have e3 : (s.heap.push PySem.W.emptyDict).Ns s.heap.objs.size (fun _ => none) := ⟨PySem.W.emptyDict, #[], _, e1, rfl, (fun e he => absurd he (by simp)), fun _ => rfl⟩
  have I1 := I.laid (a := s.heap.objs.size) (o := .own (s.heap.objs.size + 1)) (h' := s.heap.push PySem.W.emptyDict) (t' := s.toks) (fun b u q => Heap.get?_push_of_some _ q) (Nat.le_refl _) ⟨_, e1⟩
  refine I1.laid (a := s.heap.objs.size + 1) (o := .ins C s.heap.objs.size []) (t' := s.toks) (fun b u q => Heap.get?_push_of_some _ q) (Nat.le_of_eq (Heap.size_push _ _)) ?_
  have ne : s.heap.objs.size ≠ s.heap.objs.size + 1 := Nat.ne_of_lt (Nat.lt_succ_self _)
  refine ⟨by rw [zqq ne, zjj], Nat.zero_le _, ne, e2, fun _ => none, (Heap.Ns1.of_empty e3).at fun o q => Heap.get?_push_of_some _ q, fun _ => True.intro, fun y hy => absurd rfl hy⟩
theorem attr_of {prog : Program} {w : World} {env : Env} {e : Expr} {f : Str} {pos : Pos} {s : Shared} {Q : Value → Shared → Prop} (hb : attributeBase e f env (eval e env) = eval e env)
    (h : wpAny (model prog w) A (eval e env) (fun o s₁ => wpAny (model prog w) A (getAttr o f true) Q E s₁) E s) : wpAny (model prog w) A (eval (.Attribute e f pos) env) Q E s :=
  Attribute_any_ h (by rw [arm_eval_Attribute, hb])
end
noncomputable def tFld (K : PySem.W.Frag) (ta : TE) (f : Str) : TE := fun σ H Q => ta σ H fun x H1 => ∃ a C dx fs v, x = .ref a ∧ H1 a = some (.ins C dx fs) ∧ Cls K C ∧ NoAttr K C f ∧ fs.lookup f = some v ∧ Q v H1
noncomputable def sFld (K : PySem.W.Frag) (ta tv : TE) (f : Str) : TS := fun D σ H => tv σ H fun y H1 => ta σ H1 fun x H2 => ∃ a C dx fs, x = .ref a ∧ H2 a = some (.ins C dx fs) ∧ Cls K C ∧ NoAttr K C f ∧ fs.length < 1000 ∧
  D.nx σ (upd H2 a (.ins C dx (putF f y fs)))
section
variable {X : Cx} {o e value : Expr} {f : Str} {pos pos' tpos : Pos} {ta tv : TE}
theorem pe_fld (he : PE X e ta) (hb : attributeBase e f X.env (eval e X.env) = eval e X.env) : PE X (.Attribute e f pos) (tFld X.K ta f) := by
  intro pins s σ H Q I h
  refine attr_of hb (thn (he pins s σ H _ I h) fun u s1 ⟨x, H1, I1, rx, a, C, dx, fs, v, ex, ea, c, n, l, q⟩ => ?_)
  subst ex
  obtain rfl : u = Value.ref a := rx
  exact getattr_ok I1 ea c n l fun u' s2 I2 ru => ⟨v, H1, I2, ru, q⟩
theorem ps_fld (ha : PE X o ta) (hv : PE X value tv) (hs : swapsWith value (some (.Attribute o f pos')) pos.line X.env = pure false) : PS X (.Assign [.Attribute o f pos'] value pos) (sFld X.K ta tv f) := by
  intro pins s σ H D I h
  refine plainObj_wpAny_Assign_Attribute (thn (hv pins s σ H _ I h) fun u s1 ⟨y, H1, I1, ry, q⟩ => thn (ha pins s1 σ H1 _ I1 q) fun ov s2 ⟨x, H2, I2, rx, a, C, dx, fs, ex, ea, c, n, l, q2⟩ => ?_) hs
  subst ex
  obtain rfl : ov = Value.ref a := rx
  exact setattr_ok I2 ea c n l ry fun s3 I3 => ⟨σ, _, I3, q2⟩
end
section
variable {X : Cx} {pins : List (Addr × Obj)} {σ : St} {H : Hp} {s : Shared} {A : Around} {E : Value → Shared → Prop} {Q : Value → Shared → Prop} {c : Value} {b : Bool}
inductive TyOf (K : PySem.W.Frag) (H : Hp) : V → Value → Prop where
  | non : TyOf K H .non (.type "NoneType")
  | bl (x : Bool) : TyOf K H (.bl x) (.type "bool")
  | int (i : Int) : TyOf K H (.int i) (.type "int")
  | str (x : Str) : TyOf K H (.str x) (.type "str")
  | flt (x : UInt64) : TyOf K H (.flt x) (.type "float")
  | lst {a : Addr} {xs : List V} (e : H a = some (.lst xs)) : TyOf K H (.ref a) (.type "list")
  | frz {a : Addr} {o : Obj} {xs : List V} (e : H a = some (.frz o (.lst xs))) : TyOf K H (.ref a) (.type "list")
  | tup {a : Addr} {xs : List V} (e : H a = some (.tup xs)) : TyOf K H (.ref a) (.type "tuple")
  | dK {a : Addr} {kvs : List (Key × V)} (e : H a = some (.dK kvs)) : TyOf K H (.ref a) (.type "dict")
  | dT {a : Addr} {kvs : List (List Key × V)} (e : H a = some (.dT kvs)) : TyOf K H (.ref a) (.type "dict")
  | ins {a C dx : Addr} {fs : List (Str × V)} (e : H a = some (.ins C dx fs)) (cl : Cls K C) (ha : PySem.W.findIn K (.ref C) "__class__" = some (some (.builtin "object.__class__")))
      (hn : PySem.W.specialIn K (.builtin "object.__class__") "__get__" = some (some (.builtin "getset_descriptor.__get__"))) (htk : PySem.W.takesIn K (.builtin "object.__class__") = some true)
      (hm : PySem.W.mroIn K C (.type "object") = some true) : TyOf K H (.ref a) (.ref C)
theorem isinst_ok {x : V} {u t : Value} (I : Inv X pins σ H s) (rx : RelV x u) (ty : TyOf X.K H x t) (e : PySem.W.kitOne X.K t c = some b) (h : ∀ tk, Q (.bool b) { s with toks := tk }) :
    wpAny (model X.prog X.w) A (call (.builtin "isinstance") [u, c]) Q E s := by
  cases ty with
  | non => cases (show u = Value.none from rx); exact PySem.W.kia_one PySem.W.kitx_none I.kIn True.intro e (fun z => nomatch z) h
  | bl y => cases (show u = Value.bool y from rx); exact PySem.W.kia_one PySem.W.kitx_bool I.kIn True.intro e (fun z => nomatch z) h
  | int i => obtain ⟨t, q⟩ := (show ∃ t, u = Value.int i t from rx); cases q; exact PySem.W.kia_one PySem.W.kitx_int I.kIn True.intro e (fun z => nomatch z) h
  | str y => obtain ⟨t, q⟩ := (show ∃ t, u = Value.str y t from rx); cases q; exact PySem.W.kia_one PySem.W.kitx_str I.kIn True.intro e (fun z => nomatch z) h
  | flt y => obtain ⟨t, q⟩ := (show ∃ t, u = Value.float y t from rx); cases q; exact PySem.W.kia_one PySem.W.kitx_float I.kIn True.intro e (fun z => nomatch z) h
  | @lst a xs ea =>
    cases (show u = Value.ref a from rx)
    obtain ⟨_, _, n, _, h1⟩ := (show ObjOk X.prog X.w H s.heap a (.lst xs) from I.hok a _ ea)
    exact PySem.W.kia_one PySem.W.kitx_list I.kIn ⟨_, h1, rfl⟩ e (fun z => nomatch z) h
  | @frz a ob xs ea =>
    cases (show u = Value.ref a from rx)
    obtain ⟨_, _, _, n, _, h1⟩ := (show ObjOk X.prog X.w H s.heap a (.frz ob (.lst xs)) from I.hok a _ ea)
    exact PySem.W.kia_one PySem.W.kitx_list I.kIn ⟨_, h1, rfl⟩ e (fun z => nomatch z) h
  | @tup a xs ea =>
    cases (show u = Value.ref a from rx)
    obtain ⟨_, _, _, p⟩ := (show ObjOk X.prog X.w H s.heap a (.tup xs) from I.hok a _ ea)
    obtain ⟨o, h1, h2, _⟩ := p
    exact PySem.W.kia_one PySem.W.kitx_tuple I.kIn ⟨o, h1, h2⟩ e (fun z => nomatch z) h
  | @dK a kvs ea =>
    cases (show u = Value.ref a from rx)
    obtain ⟨_, _, vs, _, p⟩ := (show ObjOk X.prog X.w H s.heap a (.dK kvs) from I.hok a _ ea)
    obtain ⟨o, es, ep, h1, h2, _⟩ := p
    exact PySem.W.kia_one PySem.W.kitx_dict I.kIn ⟨o, h1, h2.1⟩ e (fun z => nomatch z) h
  | @dT a kvs ea =>
    cases (show u = Value.ref a from rx)
    obtain ⟨_, _, xs, _, o, es, ep, h1, h2, _⟩ := (show ObjOk X.prog X.w H s.heap a (.dT kvs) from I.hok a _ ea)
    exact PySem.W.kia_one PySem.W.kitx_dict I.kIn ⟨o, h1, h2.1⟩ e (fun z => nomatch z) h
  | @ins a C dx fs ea cl ha hn htk hm =>
    cases (show u = Value.ref a from rx)
    obtain ⟨mA, O, _⟩ := ins_get I.hok ea
    obtain ⟨od, J, _⟩ := O.look
    exact PySem.W.kia_one (PySem.W.kitx_own (cl.get _) cl.hd ha hn htk hm) I.kIn J e (fun z => nomatch z) h
end
end L2
namespace L2
open PySem PySem.Spec PyProof.Rows
structure Room (k : Nat) (A : Around) : Prop where
  hd : A.handled = none
  dp : A.depth + 3 * k + 5 < recursionLimit
  un : A.units + 16 * k + 200 < cLine
theorem Room.mono {j k : Nat} {A : Around} (r : Room k A) (h : j ≤ k) : Room j A := ⟨r.hd, by have := r.dp; lia, by have := r.un; lia⟩
theorem Room.deeper {k : Nat} {A : Around} (r : Room (k + 1) A) (env : Env) : Room k (A.deeper env) :=
  ⟨r.hd, by have := r.dp; show A.depth + 1 + 3 * k + 5 < _; lia, by have := r.un; show A.units + 3 + 16 * k + 200 < _; lia⟩
theorem Room.in1 {k : Nat} {A : Around} (r : Room (k + 1) A) : Room k A.in1 :=
  ⟨r.hd, by have := r.dp; show A.depth + 3 * k + 5 < _; lia, by have := r.un; show A.units + 1 + 16 * k + 200 < _; lia⟩
theorem make_depth {A : Around} {C : Addr} {us : List Value} {kw : List (Str × Value)} : (A.under (.builtin "type.__call__" ⟨.ref C :: us, kw⟩)).depth = A.depth + 1 := by
  first | rfl | simp [Around.under, Code.weight, Code.isCreation, Code.isGuard, Code.isCaller, Code.frames, Code.isFrame, guardIds]
theorem make_units {A : Around} {C : Addr} {us : List Value} {kw : List (Str × Value)} : (A.under (.builtin "type.__call__" ⟨.ref C :: us, kw⟩)).units = A.units + 1 := by
  first | rfl | simp [Around.under, Code.cUnits, Code.frames, Code.isFrame]
theorem Room.make {k : Nat} {A : Around} (r : Room (k + 1) A) (C : Addr) (us : List Value) (kw : List (Str × Value)) : Room k (A.under (.builtin "type.__call__" ⟨.ref C :: us, kw⟩)) :=
  ⟨r.hd, by have := r.dp; rw [make_depth]; lia, by have := r.un; rw [make_units]; lia⟩
theorem Room.depth {k : Nat} {A : Around} (r : Room k A) : A.depth < recursionLimit := by have := r.dp; lia
theorem Room.units {k : Nat} {A : Around} (r : Room k A) : A.units + 64 < cLine := by have := r.un; lia
noncomputable def tNil : TA := fun _ H Q => Q [] H
noncomputable def tCons (ta : TE) (tr : TA) : TA := fun σ H Q => ta σ H fun x H1 => tr σ H1 fun xs H2 => Q (x :: xs) H2
section
variable {X : Cx} {e : Expr} {es : List Expr} {te : TE} {t : TA} {pos : Pos}
theorem pa_nil : PA X [] tNil := fun _ _ _ _ H Q I h => Calls.spliced_nil ⟨[], H, I, .nil, h⟩
theorem pa_cons (ha : PE X e te) (hr : PA X es t) (hs : starEach (e :: es) X.env = (false, eval e X.env) :: starEach es X.env := by rfl) : PA X (e :: es) (tCons te t) := by
  intro pos pins s σ H Q I h
  rw [hs]
  show wpAny _ _ (spliced ((false, eval e X.env) :: backTo pos (starEach es X.env))) _ _ s
  refine Calls.spliced_cons (thn (ha pins s σ H _ I h) fun u s1 ⟨x, H1, I1, r1, q1⟩ => ?_)
  exact thn (hr pos pins s1 σ H1 _ I1 q1) fun us s2 ⟨xs, H2, I2, r2, q2⟩ => ⟨x :: xs, H2, I2, .cons r1 r2, q2⟩
noncomputable def tTup (t : TA) : TE := fun σ H Q => t σ H fun xs H1 => xs.length ≤ sizeLine ∧ ∀ p, H1 p = none → Q (.ref p) (upd H1 p (.tup xs))
noncomputable def tLst (t : TA) : TE := fun σ H Q => t σ H fun xs H1 => xs.length ≤ sizeLine ∧ ∀ p, H1 p = none → Q (.ref p) (upd H1 p (.lst xs))
theorem pe_tup {x1} (h : PA X es t) : PE X (.Tuple es x1 pos) (tTup t) := by
  intro pins s σ H Q I hq
  refine wpAny_Tuple_spliced (thn (h pos pins s σ H _ I hq) fun us s1 ⟨xs, H1, I1, r, z, q⟩ => ⟨by rw [← r.length]; exact z, ?_⟩)
  have hf : H1 s1.heap.objs.size = none := I1.hok.fresh (Nat.le_refl _)
  refine ⟨.ref s1.heap.objs.size, upd H1 s1.heap.objs.size (.tup xs), I1.laid (t' := s1.toks) (fun b u e => Heap.get?_push_of_some _ e) (Nat.le_refl _) ?_, rfl, q _ hf⟩
  exact ⟨z, us, r, ⟨_, Heap.get?_push_size _ rfl, rfl, _, rfl⟩⟩
theorem pe_lst (h : PA X es t) : PE X (.List es pos) (tLst t) := by
  intro pins s σ H Q I hq
  refine wpAny_List_spliced (thn (h pos pins s σ H _ I hq) fun us s1 ⟨xs, H1, I1, r, z, q⟩ => ⟨by rw [← r.length]; exact z, ?_⟩)
  have hf : H1 s1.heap.objs.size = none := I1.hok.fresh (Nat.le_refl _)
  refine ⟨.ref s1.heap.objs.size, upd H1 s1.heap.objs.size (.lst xs), I1.laid (t' := s1.toks) (fun b u e => Heap.get?_push_of_some _ e) (Nat.le_refl _) ?_, rfl, q _ hf⟩
  exact ⟨z, us, 0, r, Heap.get?_push_size _ rfl⟩
end
noncomputable abbrev Sp := List V → Hp → VK → XK → Prop
noncomputable abbrev CXT := List Env → Hp → Shared → XK → Value → Shared → Prop
structure Env0 (P : Program) (w : World) (K : PySem.W.Frag) (mg : Str → Option Value) (base : Heap) (A : Around) (outer : List Env) (s : Shared) (H : Hp) : Prop where
  frames : A.frames = some outer
  mod : Mod K mg base
  bs : ∀ b o, base.get? b = some o → s.heap.get? b = some o ∧ H b = none
  bsz : base.objs.size ≤ s.heap.objs.size
  funs : s.heap.FunFrames base outer
  frf : ∀ b ∈ frs outer, H b = none
  hok : HOk P w H s.heap
  bare : AllBare s.gens
noncomputable def CE (outer : List Env) (P : Program) (w : World) (H : Hp) (s : Shared) (Q : VK) (u : Value) (s' : Shared) : Prop :=
  ∃ v H', s'.os = s.os ∧ AllBare s'.gens ∧ Un (frs outer) [] H H' s.heap s'.heap ∧ HOk P w H' s'.heap ∧ RelV v u ∧ Q v H'
noncomputable def CR (CX : CXT) (outer : List Env) (P : Program) (w : World) (H : Hp) (s : Shared) (Q : VK) (E : XK) (r : Result) (s' : Shared) : Prop :=
  match r with
  | .ok (.ret u) => CE outer P w H s Q u s'
  | .ok _ => False
  | .error e => CX outer H s E e s'
structure FnOk (P : Program) (w : World) (K : PySem.W.Frag) (mg : Str → Option Value) (base : Heap) (CX : CXT) (k : Nat) (f : Addr) (fd : FuncData) (ps : List Str) (sp : Sp) : Prop where
  len : ∀ vs H Q E, sp vs H Q E → vs.length = ps.length
  run : ∀ (A : Around) (outer : List Env) (s : Shared) (H : Hp) (args : Args) (us : List Value) (vs : List V) (Q : VK) (E : XK), Room k A → Env0 P w K mg base A outer s H → BindsTo s fd args (ps.zip us) → Vals vs us → sp vs H Q E →
    codeAny (model P w) A (.call (.ref f) args) (CR CX outer P w H s Q E) s
theorem FnOk.mono {P : Program} {w : World} {K : PySem.W.Frag} {mg : Str → Option Value} {base : Heap} {CX : CXT} {j k : Nat} {f : Addr} {fd : FuncData} {ps : List Str} {sp : Sp} (F : FnOk P w K mg base CX j f fd ps sp) (h : j ≤ k) :
    FnOk P w K mg base CX k f fd ps sp := ⟨F.len, fun A outer s H args us vs Q E hr => F.run A outer s H args us vs Q E (hr.mono h)⟩
theorem FnOk.imp {P : Program} {w : World} {K : PySem.W.Frag} {mg : Str → Option Value} {base : Heap} {CX : CXT} {k : Nat} {f : Addr} {fd : FuncData} {ps : List Str} {sp sp' : Sp} (F : FnOk P w K mg base CX k f fd ps sp)
    (h : ∀ vs H Q E, sp' vs H Q E → sp vs H Q E) : FnOk P w K mg base CX k f fd ps sp' :=
  ⟨fun vs H Q E q => F.len vs H Q E (h _ _ _ _ q), fun A outer s H args us vs Q E hr he hb hv hs => F.run A outer s H args us vs Q E hr he hb hv (h _ _ _ _ hs)⟩
theorem Env0.make {P : Program} {w : World} {K : PySem.W.Frag} {mg : Str → Option Value} {base : Heap} {A : Around} {outer : List Env} {s : Shared} {H : Hp} (e : Env0 P w K mg base A outer s H) (C : Addr) (us : List Value) (kw : List (Str × Value)) :
    Env0 P w K mg base (A.under (.builtin "type.__call__" ⟨.ref C :: us, kw⟩)) outer s H := ⟨by first | exact e.frames | (simpa [Around.under, Code.envs, Code.isFrame, pushEnvs] using e.frames), e.mod, e.bs, e.bsz, e.funs, e.frf, e.hok, e.bare⟩
theorem Env0.in1 {P : Program} {w : World} {K : PySem.W.Frag} {mg : Str → Option Value} {base : Heap} {A : Around} {outer : List Env} {s : Shared} {H : Hp} (e : Env0 P w K mg base A outer s H) :
    Env0 P w K mg base A.in1 outer s H := ⟨e.frames, e.mod, e.bs, e.bsz, e.funs, e.frf, e.hok, e.bare⟩
section
variable {X : Cx} {pins : List (Addr × Obj)} {σ : St} {H : Hp} {s s' : Shared}
theorem Inv.env0 (I : Inv X pins σ H s) : Env0 X.prog X.w X.K X.mg X.base X.A X.stack s H :=
  ⟨I.ok.frames, I.ok.mod, I.bs, Nat.le_trans I.ok.bsz I.sz, I.stack, I.stkFree, I.hok, I.bare⟩
theorem Inv.after {Q : VK} {u : Value} (I : Inv X pins σ H s) (h : CE X.stack X.prog X.w H s Q u s') : EP X pins σ Q u s' := by
  obtain ⟨v, H', os, bare, un, hok, r, q⟩ := h
  obtain ⟨hh, g, d, t, os'⟩ := s'
  obtain rfl : os' = s.os := os
  exact ⟨v, H', I.call (h' := hh) (g' := g) (d' := d) (t' := t) (ch := []) un hok bare (fun b z => absurd z (by simp)), r, q⟩
end
noncomputable def tCall (sp : Sp) (dvs : List V) (E : XK) (t : TA) : TE := fun σ H Q => t σ H fun vs H1 => sp (vs ++ dvs) H1 Q E
noncomputable def tMake (C : Addr) (sp : Sp) (dvs : List V) (E : XK) (t : TA) : TE := fun σ H Q => t σ H fun vs H1 => ∀ x dx, H1 x = none → H1 dx = none → dx ≠ x →
  sp (.ref x :: (vs ++ dvs)) (upd (upd H1 dx (.own x)) x (.ins C dx [])) (fun v H2 => v = .non ∧ Q (.ref x) H2) E
noncomputable def Binds (K : PySem.W.Frag) (fd : FuncData) (ps : List Str) (ds : List Value) : Prop :=
  ∀ (s : Shared) (us : List Value), K.In s.heap → (us ++ ds).length = ps.length → BindsTo s fd ⟨us, []⟩ (ps.zip (us ++ ds))
theorem Binds.all {K : PySem.W.Frag} {fd : FuncData} {ps : List Str} (h : ∀ us : List Value, us.length = ps.length → bindArgs fd ⟨us, []⟩ = pure (ps.zip us)) : Binds K fd ps [] := fun s us _ hl => by
  rw [List.append_nil] at hl ⊢
  exact .of_eq (h us hl)
noncomputable def Passes (CX : CXT) (X : Cx) (E : XK) : Prop := ∀ (pins : List (Addr × Obj)) (σ : St) (H : Hp) (s : Shared) (e : Value) (s' : Shared), Inv X pins σ H s → CX X.stack H s E e s' → X.xe e s'
section
variable {X : Cx} {CX : CXT} {k : Nat} {f C : Addr} {fd : FuncData} {ps : List Str} {sp : Sp} {dvs : List V} {ds : List Value} {E : XK} {x m : Str} {p pos apos : Pos} {e o : Expr} {es : List Expr} {ta : TE} {t : TA}
theorem run_fn {pins : List (Addr × Obj)} {σ : St} {H : Hp} {s : Shared} {Q : VK} {us : List Value} {vs : List V} (F : FnOk X.prog X.w X.K X.mg X.base CX k f fd ps sp) (hr : Room k X.A) (hb : Binds X.K fd ps ds) (hd : Vals dvs ds) (hx : Passes CX X E)
    (I : Inv X pins σ H s) (r : Vals vs us) (h : sp (vs ++ dvs) H Q E) : wpAny (model X.prog X.w) X.A (call (.ref f) us) (EP X pins σ Q) X.xe s := by
  have r2 : Vals (vs ++ dvs) (us ++ ds) := r.append hd
  have hl : (us ++ ds).length = ps.length := by rw [← r2.length]; exact F.len _ _ _ _ h
  refine wpAny_call (codeAny_mono (F.run X.A X.stack s H ⟨us, []⟩ (us ++ ds) (vs ++ dvs) Q E hr I.env0 (hb s us I.kIn hl) r2 h) fun r s' hq => ?_)
  cases r with
  | error e => exact hx pins σ H s e s' I hq
  | ok fl =>
    cases fl with
    | ret u => exact I.after hq
    | next => exact False.elim hq
    | brk => exact False.elim hq
    | cont => exact False.elim hq
theorem pe_call (F : FnOk X.prog X.w X.K X.mg X.base CX k f fd ps sp) (hr : Room k X.A) (hg : Gl X x) (hm : X.mg x = some (.ref f)) (hk : PySem.W.keepIn X.K (.ref f) = true) (hb : Binds X.K fd ps ds) (hd : Vals dvs ds) (hx : Passes CX X E)
    (ha : PA X (e :: es) t) (hdb : (x == ("__debug__" : Str)) = false := by decide) (he : starEach (e :: es) X.env = (false, eval e X.env) :: starEach es X.env := by rfl) (hpl : (backTo pos (starEach es X.env)).any (·.1) = false := by rfl) :
    PE X (.Call (.Name x p) (e :: es) [] pos) (tCall sp dvs E t) := by
  intro pins s σ H Q I h
  refine wpAny_Call_Name_kw (ld_glob I hg hm ?_ hdb)
  refine PySem.W.callWith_K (h₀ := X.base) I.ok.mod.kin hk (thn (ha pos pins s σ H _ I h) fun us s1 ⟨vs, H1, I1, r, q⟩ => ⟨I1.kIn, ?_⟩) he hpl
  exact run_fn F hr hb hd hx I1 r q
structure Mk (K : PySem.W.Frag) (C f : Addr) : Prop where
  makes : PySem.W.makesIn K C = true
  init : PySem.W.findIn K (.ref C) "__init__" = some (some (.ref f))
  fn : PySem.W.isFn K (.ref f) = true
  kp : PySem.W.keepIn K (.ref C) = true
theorem run_make {pins : List (Addr × Obj)} {σ : St} {H : Hp} {s : Shared} {Q : VK} {us : List Value} {vs : List V} (M : Mk X.K C f) (F : FnOk X.prog X.w X.K X.mg X.base CX k f fd ps sp) (hr : Room (k + 1) X.A) (hb : Binds X.K fd ps ds) (hd : Vals dvs ds)
    (hx : Passes CX X E) (I : Inv X pins σ H s) (r : Vals vs us)
    (h : ∀ x dx, H x = none → H dx = none → dx ≠ x → sp (.ref x :: (vs ++ dvs)) (upd (upd H dx (.own x)) x (.ins C dx [])) (fun v H2 => v = .non ∧ Q (.ref x) H2) E) :
    wpAny (model X.prog X.w) X.A (call (.ref C) us) (EP X pins σ Q) X.xe s := by
  have hq := h (s.heap.objs.size + 1) s.heap.objs.size (I.hok.fresh (Nat.le_succ _)) (I.hok.fresh (Nat.le_refl _)) (Nat.ne_of_lt (Nat.lt_succ_self _))
  have I2 := Inv.made (C := C) I
  have r2 : Vals (V.ref (s.heap.objs.size + 1) :: (vs ++ dvs)) (Value.ref (s.heap.objs.size + 1) :: (us ++ ds)) := .cons rfl (r.append hd)
  have hl : (Value.ref (s.heap.objs.size + 1) :: us ++ ds).length = ps.length := by
    have e := r2.length
    rw [F.len _ _ _ _ hq] at e
    exact e.symm
  refine wpAny_call (make_map (f := f) I.kIn M.makes M.init (beq_iff_eq.mp M.fn) (codeAny_mono (F.run _ X.stack _ _ ⟨Value.ref (s.heap.objs.size + 1) :: us, []⟩ (Value.ref (s.heap.objs.size + 1) :: (us ++ ds)) _ _ E (hr.make C us [])
    (I2.env0.make C us []) (hb _ (Value.ref (s.heap.objs.size + 1) :: us) I2.kIn hl) r2 hq) fun r s' hq' => ?_))
  cases r with
  | error e => exact hx pins σ _ _ e s' I2 hq'
  | ok fl =>
    cases fl with
    | ret u =>
      obtain ⟨v, H', I3, rv, ev, q3⟩ := I2.after hq'
      subst ev
      exact ⟨rv, ⟨V.ref (s.heap.objs.size + 1), H', I3, rfl, q3⟩⟩
    | next => exact False.elim hq'
    | brk => exact False.elim hq'
    | cont => exact False.elim hq'
theorem pe_make (M : Mk X.K C f) (F : FnOk X.prog X.w X.K X.mg X.base CX k f fd ps sp) (hr : Room (k + 1) X.A) (hg : Gl X x) (hm : X.mg x = some (.ref C)) (hb : Binds X.K fd ps ds) (hd : Vals dvs ds) (hx : Passes CX X E)
    (ha : PA X (e :: es) t) (hdb : (x == ("__debug__" : Str)) = false := by decide) (he : starEach (e :: es) X.env = (false, eval e X.env) :: starEach es X.env := by rfl) (hpl : (backTo pos (starEach es X.env)).any (·.1) = false := by rfl) :
    PE X (.Call (.Name x p) (e :: es) [] pos) (tMake C sp dvs E t) := by
  intro pins s σ H Q I h
  refine wpAny_Call_Name_kw (ld_glob I hg hm ?_ hdb)
  refine PySem.W.callWith_K (h₀ := X.base) I.ok.mod.kin M.kp (thn (ha pos pins s σ H _ I h) fun us s1 ⟨vs, H1, I1, r, q⟩ => ⟨I1.kIn, ?_⟩) he hpl
  exact run_make M F hr hb hd hx I1 r q
end
section
variable {X : Cx} {CX : CXT} {k : Nat} {f C : Addr} {fd : FuncData} {ps ks : List Str} {sp : Sp} {E : XK} {x m : Str} {p pos apos kpos : Pos} {e o : Expr} {es : List Expr} {kws : List Keyword} {te ta : TE} {t tk : TA} {nm : Option Str}
variable {g : List Value → List Value → List Value} {gV : List V → List V → List V}
end
structure FnScope (N P : List Str) (sc : Scope) : Prop where
  kind : sc.kind = .function
  co : sc.isCoroutine = false
  gen : sc.isGenerator = false
  nd : N.Nodup
  pre : N.take P.length = P
  par : ∀ x ∈ P, sc.names.lookup x = some .local ∨ sc.names.lookup x = some .cell
  nofree : ∀ y ∈ sc.names, y.2 ≠ .free
theorem bindL_out {kindOf : Str → Option NameKind} {x : Str} : ∀ {binds : List (Str × Value)} {m : Str → Option Value}, (∀ v, (x, v) ∉ binds) → bindL kindOf binds m x = m x
  | [], _, _ => rfl
  | (n, v) :: r, m, h => by
    unfold bindL
    rw [bindL_out fun w hw => h w (List.mem_cons_of_mem _ hw)]
    split
    · have : x ≠ n := by rintro rfl; exact h v List.mem_cons_self
      simp [this]
    · rfl
theorem bindC_out {kindOf : Str → Option NameKind} {x : Str} : ∀ {binds : List (Str × Value)} {m : Str → Option Value}, (∀ v, (x, v) ∉ binds) → bindC kindOf binds m x = m x
  | [], _, _ => rfl
  | (n, v) :: r, m, h => by
    unfold bindC
    rw [bindC_out fun w hw => h w (List.mem_cons_of_mem _ hw)]
    split
    · rfl
    · have : x ≠ n := by rintro rfl; exact h v List.mem_cons_self
      simp [this]
theorem bindL_get {kindOf : Str → Option NameKind} {x : Str} {v : Value} : ∀ {P : List Str} {vs : List Value} {i : Nat} {m : Str → Option Value}, P.Nodup → P[i]? = some x → vs[i]? = some v → kindOf x = some .local →
    bindL kindOf (P.zip vs) m x = some v
  | [], _, _, _, _, h, _, _ => by simp at h
  | _ :: _, [], _, _, _, _, h, _ => by simp at h
  | p :: P, w :: vs, 0, m, nd, h1, h2, hk => by
    simp at h1 h2; subst h1; subst h2
    show bindL kindOf ((p, w) :: P.zip vs) m p = _
    unfold bindL
    rw [bindL_out fun v hv => (List.nodup_cons.mp nd).1 (List.of_mem_zip hv).1, if_pos hk]
    simp
  | p :: P, w :: vs, i + 1, m, nd, h1, h2, hk => by
    show bindL kindOf ((p, w) :: P.zip vs) m x = _
    unfold bindL
    exact bindL_get (i := i) (List.nodup_cons.mp nd).2 (by simpa using h1) (by simpa using h2) hk
theorem bindC_get {kindOf : Str → Option NameKind} {x : Str} {v : Value} : ∀ {P : List Str} {vs : List Value} {i : Nat} {m : Str → Option Value}, P.Nodup → P[i]? = some x → vs[i]? = some v → kindOf x ≠ some .local →
    bindC kindOf (P.zip vs) m x = some v
  | [], _, _, _, _, h, _, _ => by simp at h
  | _ :: _, [], _, _, _, _, h, _ => by simp at h
  | p :: P, w :: vs, 0, m, nd, h1, h2, hk => by
    simp at h1 h2; subst h1; subst h2
    show bindC kindOf ((p, w) :: P.zip vs) m p = _
    unfold bindC
    rw [bindC_out fun v hv => (List.nodup_cons.mp nd).1 (List.of_mem_zip hv).1, if_neg hk]
    simp
  | p :: P, w :: vs, i + 1, m, nd, h1, h2, hk => by
    show bindC kindOf ((p, w) :: P.zip vs) m x = _
    unfold bindC
    exact bindC_get (i := i) (List.nodup_cons.mp nd).2 (by simpa using h1) (by simpa using h2) hk
noncomputable def start (N : List Str) (vs : List V) : St := vs.map some ++ List.replicate (N.length - vs.length) none
noncomputable def cxOf (CX : CXT) (P : Program) (w : World) (K : PySem.W.Frag) (mg : Str → Option Value) (base : Heap) (N : List Str) (qual : Str) (scope : Scope) (f : Addr) (cd : Value) (A : Around) (outer : List Env) (s : Shared) (H : Hp) (E : XK) : Cx where
  prog := P
  w := w
  K := K
  mg := mg
  base := base
  A := A.deeper (envOfC qual scope s.heap.objs.size f cd)
  N := N
  s₀ := s
  H₀ := H
  env := envOfC qual scope s.heap.objs.size f cd
  outer := outer
  stack := envOfC qual scope s.heap.objs.size f cd :: outer
  ex := []
  calm := true
  fn := fun _ => true
  pn := []
  xe := fun e s' => wpAny (model P w) (A.deeper (envOfC qual scope s.heap.objs.size f cd)) (leaving (envOfC qual scope s.heap.objs.size f cd) e) (fun _ s'' => CX outer H s E e s'') (fun e' s'' => CX outer H s E e' s'') s'
theorem cell_has {sc : Scope} {n : Nat} {x : Str} (h : sc.names.lookup x = some .cell) : ∃ c, (cellsFrom n sc.names []).lookup x = some c := by
  have q := PySem.W.cellsFrom_some sc.names n [] (.inl h)
  exact Option.isSome_iff_exists.mp q
theorem inv_start {CX : CXT} {P : Program} {w : World} {K : PySem.W.Frag} {mg : Str → Option Value} {base : Heap} {N ps : List Str} {qual : Str} {scope : Scope} {f : Addr} {cd : Value} {A : Around} {outer : List Env} {s s1 : Shared} {H : Hp} {E : XK} {us : List Value} {vs : List V}
    (S : FnScope N ps scope) (hd : A.handled = none) (e0 : Env0 P w K mg base A outer s H) (hl : vs.length = ps.length) (r : Vals vs us)
    (x : InCallC s s.heap.objs.size (bindL (envOfC qual scope s.heap.objs.size f cd).kindOf (ps.zip us) fun _ => none) (cellsFrom (s.heap.objs.size + 1) scope.names []) (bindC (envOfC qual scope s.heap.objs.size f cd).kindOf (ps.zip us) fun _ => none) s1) :
    Inv (cxOf CX P w K mg base N qual scope f cd A outer s H E) [] (start N vs) H s1 := by
  have hpl : ps.length ≤ N.length := by have := congrArg List.length S.pre; rw [List.length_take] at this; lia
  obtain ⟨h1, tk, rfl, hk⟩ := x.done
  have noA : ∀ b : Addr, b ∉ (cxOf CX P w K mg base N qual scope f cd A outer s H E).ex := fun b z => absurd (show b ∈ ([] : List Addr) from z) (by simp)
  refine ⟨⟨e0.mod, S.kind, rfl, rfl, Nat.le_refl _, fun y z c h1 h2 => ?_, fun y hy => ?_, fun y c _ h => ?_, fun _ => hd, Around.frames_deeper e0.frames, .inr ⟨rfl, rfl⟩, fun b z => absurd z (noA b), e0.bs, e0.bsz, fun b _ _ => noA b, fun b z => absurd z (noA b), e0.funs, e0.frf⟩,
    rfl, e0.bare, Un.kept hk, ⟨_, x.toInCall.ns, fun i y v h1 h2 h3 => ?_⟩, fun y c h => ⟨_, x.cell y c h⟩, e0.hok.fresh (Nat.le_refl _), fun y c h => ?_, fun p hp => absurd (show p ∈ ([] : List (Addr × Obj)) from hp) (by simp), e0.hok.kept hk, ?_⟩
  · exact name_of_addr x.apart (PySem.mem_of_lookup h1) (PySem.mem_of_lookup h2)
  · have hy : scope.names.lookup y = some .cell ∨ scope.names.lookup y = some .free := hy
    rcases hy with hy | hy
    · exact cell_has hy
    · exact absurd rfl (S.nofree _ (PySem.mem_of_lookup hy))
  · exact Nat.le_of_lt (x.above y c (PySem.mem_of_lookup h))
  · have hi : i < vs.length := by
      unfold start at h2
      by_cases hi : i < vs.length
      · exact hi
      · rw [List.getElem?_append_right (by simpa using hi)] at h2
        rw [List.getElem?_replicate] at h2
        split at h2 <;> cases h2
    have ha : vs[i]? = some v := by
      unfold start at h2
      rw [List.getElem?_append_left (by simpa using hi), List.getElem?_map] at h2
      cases e : vs[i]? with
      | none => rw [e] at h2; cases h2
      | some a => rw [e] at h2; cases h2; rfl
    obtain ⟨u, hu, rv⟩ := r.get ha
    have hp : ps[i]? = some y := by
      rw [← S.pre, List.getElem?_take_of_lt (by lia)]; exact h1
    have ndP : ps.Nodup := by rw [← S.pre]; exact S.nd.sublist (List.take_sublist _ _)
    refine ⟨u, rv, ?_⟩
    rcases S.par y (List.mem_of_getElem? hp) with k | k
    · exact .inl ⟨k, bindL_get ndP hp hu k⟩
    · obtain ⟨c, e⟩ := cell_has (n := s.heap.objs.size + 1) k
      refine .inr ⟨.inl k, c, e, ?_⟩
      have q := x.cell y c e
      rw [bindC_get ndP hp hu (by show scope.names.lookup y ≠ _; rw [k]; decide)] at q
      exact q
  · exact e0.hok.fresh (Nat.le_of_lt (x.above y c (PySem.mem_of_lookup h)))
  · unfold start
    show _ = N.length
    rw [List.length_append, List.length_map, List.length_replicate]
    lia
theorem fn_of {CX : CXT} {P : Program} {w : World} {K : PySem.W.Frag} {mg : Str → Option Value} {base : Heap} {k : Nat} {f : Addr} {name qual : Str} {params : Arguments} {body : List Stmt} {scope : Scope} {dV kV doc pm cdv ct oc : Value} {an od : Option Addr}
    {osl : Array (Option Value)} {N ps : List Str} {sp : Sp} (lk : K.lookup f = some ⟨oc, od, .func (PySem.W.fnOf name qual params body scope dV kV doc pm an cdv ct), osl⟩) (hcd : PySem.W.codeIn K cdv qual = true) (S : FnScope N ps scope)
    (len : ∀ vs H Q E, sp vs H Q E → vs.length = ps.length)
    (hbody : ∀ (A : Around) (outer : List Env) (s : Shared) (H : Hp) (vs : List V) (Q : VK) (E : XK), Room k (A.deeper (envOfC qual scope s.heap.objs.size f cdv)) → sp vs H Q E →
      ∃ t, PSs (cxOf CX P w K mg base N qual scope f cdv A outer s H E) body t ∧ t { nx := fun _ H' => Q .non H', rt := Q } (start N vs) H) :
    FnOk P w K mg base CX (k + 1) f (PySem.W.fnOf name qual params body scope dV kV doc pm an cdv ct) ps sp := by
  refine ⟨len, fun A outer s H args us vs Q E hr e0 hb r hsp => ?_⟩
  have hl := len _ _ _ _ hsp
  have KX : K.In s.heap := e0.mod.kin.keeps fun b o e => (e0.bs b o e).1
  have lim : s.heap.NoLimit := e0.mod.nolimit.keeps fun b o e => (e0.bs b o e).1
  have hkind : ∀ y ∈ ps.zip us, scope.names.lookup y.1 = some .local ∨ (scope.names.lookup y.1 = some .cell ∧ ((cellsFrom (s.heap.objs.size + 1) scope.names []).lookup y.1).isSome = true) := fun ⟨n, v⟩ hy => by
    rcases S.par n (List.of_mem_zip hy).1 with q | q
    · exact .inl q
    · exact .inr ⟨q, PySem.W.cellsFrom_some _ _ _ (.inl q)⟩
  refine codeAny_call_function hr.depth (KX _ _ lk) rfl S.co S.gen rfl (PySem.W.codeRec_of KX hcd) (hb _ _ _ _ ?_)
  refine wpAny_newFunctionEnv_cells S.kind hkind fun env he s1 x => ?_
  subst he
  refine ⟨lim.keeps x.toInCall.keep, codeAny_func ?_⟩
  obtain ⟨t, ht, hq⟩ := hbody A outer s H vs Q E (hr.deeper _) hsp
  have I : Inv (cxOf CX P w K mg base N qual scope f cdv A outer s H E) [] (start N vs) H s1 := inv_start S hr.hd e0 hl r x
  refine wpAny_mono (ht [] s1 (start N vs) H _ I hq) (fun fl s' hs => ?_) fun e s' hs => hs
  have fin : ∀ {σ' : St} {H' : Hp} {v : V} {u : Value}, Inv (cxOf CX P w K mg base N qual scope f cdv A outer s H E) [] σ' H' s' → RelV v u → Q v H' → CE outer P w H s Q u s' :=
    fun {σ' H' v u} J rv q => ⟨v, H', J.os, J.bare, J.base, J.hok, rv, q⟩
  cases fl with
  | ret u =>
    obtain ⟨v, σ', H', J, rv, q⟩ := hs
    exact fin J rv q
  | next =>
    obtain ⟨σ', H', J, q⟩ := hs
    exact fin (v := V.non) (u := Value.none) J rfl q
  | brk =>
    obtain ⟨_, _, _, q⟩ := hs
    exact False.elim q
  | cont =>
    obtain ⟨_, _, _, q⟩ := hs
    exact False.elim q
end L2
namespace L2
open PySem PySem.Spec PyProof.Rows
section
variable {X : Cx} {x : Str} {p pos : Pos} {e : Expr} {es : List Expr} {t : TA} {id T : String} {r : List V → Hp → VK → Prop}
noncomputable def tCB (r : List V → Hp → VK → Prop) (t : TA) : TE := fun σ H Q => t σ H fun vs H1 => r vs H1 Q
theorem pe_callB (hc : CallR X (.builtin id) r) (hg : Gl X x) (hm : X.mg x = none) (hv : bootBuiltins x = some (.builtin id)) (ha : PA X (e :: es) t) (hn : x ≠ "__name__" := by decide) (hdb : (x == ("__debug__" : Str)) = false := by decide)
    (he : starEach (e :: es) X.env = (false, eval e X.env) :: starEach es X.env := by rfl) (hpl : (backTo pos (starEach es X.env)).any (·.1) = false := by rfl) : PE X (.Call (.Name x p) (e :: es) [] pos) (tCB r t) := by
  intro pins s σ H Q I h
  refine wpAny_Call_Name_kw (ld_blt I hg hm hv ?_ hn hdb)
  exact PyProof.Rows.callWith_builtin1 (thn (ha pos pins s σ H _ I h) fun us s1 ⟨vs, H1, I1, r1, q1⟩ => hc pins s1 σ H1 vs us Q I1 r1 q1) he hpl
theorem pe_callTy (hc : CallR X (.type T) r) (hg : Gl X x) (hm : X.mg x = none) (hv : bootBuiltins x = some (.type T)) (ha : PA X (e :: es) t) (hn : x ≠ "__name__" := by decide) (hdb : (x == ("__debug__" : Str)) = false := by decide)
    (he : starEach (e :: es) X.env = (false, eval e X.env) :: starEach es X.env := by rfl) (hpl : (backTo pos (starEach es X.env)).any (·.1) = false := by rfl) : PE X (.Call (.Name x p) (e :: es) [] pos) (tCB r t) := by
  intro pins s σ H Q I h
  refine wpAny_Call_Name_kw (ld_blt I hg hm hv ?_ hn hdb)
  exact PyProof.Rows.callWith_type1 (thn (ha pos pins s σ H _ I h) fun us s1 ⟨vs, H1, I1, r1, q1⟩ => hc pins s1 σ H1 vs us Q I1 r1 q1) he hpl
end
end L2
namespace HT
open PySem PyProof.Rows
noncomputable def lexLt : List Int → List Int → Bool
  | [], [] => false
  | [], _ :: _ => true
  | _ :: _, [] => false
  | x :: xs, y :: ys => if x = y then lexLt xs ys else decide (x < y)
theorem lexLt_cons (x y : Int) (xs ys : List Int) : lexLt (x :: xs) (y :: ys) = if x = y then lexLt xs ys else decide (x < y) := rfl
section
open PySem.SeqAt
open PySem.AutoSeq1 (wpAny_loadPart')
open PySem.MeetsSeq PySem.MeetsSeq2 PySem.MeetsSeq3
end
section
variable {prog : Program} {w : World} {A : Around} {E : Value → Shared → Prop} {s : Shared}
theorem cat_tup {t b : Addr} {vs ws : List Value} {Q : Value → Shared → Prop} (ht : IsTup s.heap t vs.toArray) (hb : IsTup s.heap b ws.toArray) (hv : vs ≠ [])
    (h1 : ws = [] → Q (.ref t) s) (h2 : ws ≠ [] → Q (.ref s.heap.objs.size) { s with heap := s.heap.push { cls := .type "tuple", data := .seq (vs ++ ws).toArray } })
    (hsz : vs.length + ws.length ≤ sizeLine) : wpAny (model prog w) A (binaryOp .Add (.ref t) (.ref b)) Q E s := by
  obtain ⟨⟨cls, dd, data, sl⟩, ho, hc, n, hd⟩ := id ht
  obtain ⟨⟨cls2, dd2, data2, sl2⟩, ho2, hc2, n2, hd2⟩ := id hb
  simp only at hc hd hc2 hd2
  subst hc hd hc2 hd2
  have e : vs.toArray ++ ws.toArray = (vs ++ ws).toArray := by simp
  by_cases hw : ws = []
  · exact concat_meets ⟨_, ho, rfl⟩ ⟨_, ho2, rfl⟩ noFill_tuple_add seq_tuple_add PySem.F.slot_tuple_add PySem.F.entry_tuple_add (PySem.F.args_tuple_add_2 _ _)
      (tuple_addW1 t b vs.toArray ws.toArray n n2 dd dd2 sl sl2 (by simpa using hv) (by simp [hw])) ⟨ho, ho2, h1 hw⟩
  · refine concat_meets ⟨_, ho, rfl⟩ ⟨_, ho2, rfl⟩ noFill_tuple_add seq_tuple_add PySem.F.slot_tuple_add PySem.F.entry_tuple_add (PySem.F.args_tuple_add_2 _ _)
      (tuple_addW2 t b vs.toArray ws.toArray n n2 dd dd2 sl sl2 (by simpa using hv) (by simpa using hw) (by rw [List.size_toArray, List.size_toArray]; exact hsz)) ⟨ho, ho2, ?_⟩
    rw [e]
    exact h2 hw
end
end HT
namespace L2
open PySem PySem.Spec PyProof.Rows
noncomputable abbrev TO := St → Hp → (Option Int → Hp → Prop) → Prop
theorem intsAre_of {ns : List Int} : ∀ {us : List Value}, Vals (ns.map V.int) us → IntsAre us ns := by
  induction ns with
  | nil => intro us r; rw [List.map_nil] at r; cases r; exact .nil
  | cons n ns ih =>
    intro us r
    rw [List.map_cons] at r
    cases r with
    | cons r1 r2 =>
      obtain ⟨t, e⟩ := r1
      subst e
      exact .cons n t (ih r2)
section
variable {X : Cx} {e : Expr} {te : TE} {lo hi : Option Expr} {tl th : TO} {pos p2 : Pos}
noncomputable def SlR (X : Cx) (r : V → Option Int → Option Int → Hp → VK → Prop) : Prop :=
  ∀ (pins : List (Addr × Obj)) (s : Shared) (σ : St) (H : Hp) (x : V) (v vl vu : Value) (lo hi : Option Int) (sl : Addr) (Q : VK), Inv X pins σ H s → RelV x v → s.heap.IsSliceOf sl vl vu .none → IsPart vl lo → IsPart vu hi → r x lo hi H Q →
    ∃ T id, typeLookup (.type T) "__getitem__" = pure (some (.builtin id)) ∧ s.TypeIs v T ∧ wpAny (model X.prog X.w) X.A (getItem v (.ref sl)) (EP X pins σ Q) X.xe s
theorem SlR.or {r r' : V → Option Int → Option Int → Hp → VK → Prop} (h : SlR X r) (h' : SlR X r') : SlR X (fun x lo hi H Q => r x lo hi H Q ∨ r' x lo hi H Q) := by
  intro pins s σ H x v vl vu lo hi sl Q I rx hs pl pu q
  rcases q with q | q
  · exact h pins s σ H x v vl vu lo hi sl Q I rx hs pl pu q
  · exact h' pins s σ H x v vl vu lo hi sl Q I rx hs pl pu q
noncomputable def rCatT (K : PySem.W.Frag) : R2 := fun x y H Q => ∃ a b xs ys, x = .ref a ∧ y = .ref b ∧ SqT K H a xs ∧ SqT K H b ys ∧ xs ≠ [] ∧ xs.length + ys.length ≤ sizeLine ∧
  (ys = [] → Q (.ref a) H) ∧ (ys ≠ [] → ∀ p, H p = none → Q (.ref p) (upd H p (.tup (xs ++ ys))))
theorem Vals.nil_iff {xs : List V} {us : List Value} (r : Vals xs us) : us = [] ↔ xs = [] := by
  cases r with
  | nil => simp
  | cons _ _ => simp
theorem op_catT : OpR X (binaryOp .Add) (rCatT X.K) := by
  intro pins s σ H x y v u Q I rx ry h
  obtain ⟨a, b, xs, ys, rfl, rfl, ha, hb, hx, hz, q1, q2⟩ := h
  cases rx
  cases ry
  obtain ⟨its, r1, p1, _⟩ := I.tuple ha
  obtain ⟨its2, r2, p2, _⟩ := I.tuple hb
  refine HT.cat_tup p1 p2 (fun z => hx (r1.nil_iff.mp z)) (fun z => ⟨.ref a, H, I, rfl, q1 (r2.nil_iff.mp z)⟩) (fun z => ?_) (by rw [← r1.length, ← r2.length]; exact hz)
  refine ⟨.ref s.heap.objs.size, _, I.laid (t' := s.toks) (o := .tup (xs ++ ys)) (fun b ob q => Heap.get?_push_of_some _ q) (Nat.le_refl _) ?_, rfl, q2 (fun w => z (r2.nil_iff.mpr w)) _ (I.hok.fresh (Nat.le_refl _))⟩
  exact ⟨by rw [List.length_append]; exact hz, _, r1.append r2, IsTup.new _ _⟩
end
end L2
namespace L2
open PySem PySem.Spec PyProof.Rows
noncomputable def ixN (n : Nat) (i : Int) : Option Nat := if 0 ≤ i then (if i < n then some i.toNat else none) else if -(n : Int) ≤ i then some (i + n).toNat else none
noncomputable def atI {α : Type} (xs : List α) (i : Int) : Option α := (ixN xs.length i).bind fun j => xs[j]?
theorem ixN_seq {n : Nat} {i : Int} {j : Nat} (h : ixN n i = some j) : seqIndex? i n = some j ∧ j < n ∧ -(n : Int) ≤ i ∧ i < n := by
  unfold ixN at h
  by_cases h0 : 0 ≤ i
  · rw [if_pos h0] at h
    by_cases h1 : i < n
    · rw [if_pos h1] at h
      have e : i.toNat = j := Option.some.inj h
      exact ⟨by rw [seqIndex_of h0 h1, e], by lia, by lia, h1⟩
    · rw [if_neg h1] at h; cases h
  · rw [if_neg h0] at h
    by_cases h1 : -(n : Int) ≤ i
    · rw [if_pos h1] at h
      have e : (i + n).toNat = j := Option.some.inj h
      exact ⟨by rw [seqIndex_neg (by lia) h1, e], by lia, h1, by lia⟩
    · rw [if_neg h1] at h; cases h
theorem atI_get {α : Type} {xs : List α} {i : Int} {v : α} (h : atI xs i = some v) : ∃ j, seqIndex? i xs.length = some j ∧ xs[j]? = some v ∧ j < xs.length ∧ -(xs.length : Int) ≤ i ∧ i < xs.length := by
  unfold atI at h
  cases e : ixN xs.length i with
  | none => rw [e] at h; cases h
  | some j =>
    rw [e] at h
    obtain ⟨h1, h2, h3, h4⟩ := ixN_seq e
    exact ⟨j, h1, h, h2, h3, h4⟩
noncomputable def PlainIx (b : Expr) : Prop := ∀ o i, subscripted b false o i = operate [o, i] (getItem o i)
noncomputable def IxR (X : Cx) (r : R2) : Prop :=
  ∀ (value slice : Expr) (pins : List (Addr × Obj)) (s : Shared) (σ : St) (H : Hp) (x y : V) (v u : Value) (Q : VK), Inv X pins σ H s → RelV x v → RelV y u → r x y H Q →
    subscripted slice false v u = operate [v, u] (getItem v u) → wpAny (model X.prog X.w) X.A (subscriptTail value slice v u) (EP X pins σ Q) X.xe s
noncomputable def MtR (X : Cx) (id : String) (r : V → List V → Hp → VK → Prop) : Prop :=
  ∀ (pins : List (Addr × Obj)) (s : Shared) (σ : St) (H : Hp) (x : V) (xs : List V) (v : Value) (us : List Value) (Q : VK), Inv X pins σ H s → RelV x v → Vals xs us → r x xs H Q →
    wpAny (model X.prog X.w) X.A (call (.builtin id) (v :: us)) (EP X pins σ Q) X.xe s
section
variable {X : Cx} {a b : Expr} {ta tb : TE} {pos : Pos}
theorem IxR.or {r r' : R2} (h : IxR X r) (h' : IxR X r') : IxR X (fun x y H Q => r x y H Q ∨ r' x y H Q) := by
  intro value slice pins s σ H x y v u Q I rx ry q hs
  rcases q with q | q
  · exact h value slice pins s σ H x y v u Q I rx ry q hs
  · exact h' value slice pins s σ H x y v u Q I rx ry q hs
theorem MtR.or {id : String} {r r' : V → List V → Hp → VK → Prop} (h : MtR X id r) (h' : MtR X id r') : MtR X id (fun x xs H Q => r x xs H Q ∨ r' x xs H Q) := by
  intro pins s σ H x xs v us Q I rx rs q
  rcases q with q | q
  · exact h pins s σ H x xs v us Q I rx rs q
  · exact h' pins s σ H x xs v us Q I rx rs q
theorem pe_ix {r : R2} (hr : IxR X r) (ha : PE X a ta) (hb : PE X b tb) (hs : PlainIx b) : PE X (.Subscript a b pos) (tOp r ta tb) := by
  intro pins s σ H Q I h
  exact Subscript_ (binT ha hb I h fun v u s2 x y H2 I2 rx ry q => hr a b pins s2 σ H2 x y v u Q I2 rx ry q (hs _ _))
noncomputable def rIxL (K : PySem.W.Frag) : R2 := fun x y H Q => ∃ p xs i v, x = .ref p ∧ y = .int i ∧ SqL K H p xs ∧ atI xs i = some v ∧ Q v H
noncomputable def rIxT (K : PySem.W.Frag) : R2 := fun x y H Q => ∃ p xs i v, x = .ref p ∧ y = .int i ∧ SqT K H p xs ∧ atI xs i = some v ∧ Q v H
noncomputable def rIxS : R2 := fun x y H Q => ∃ z i c, x = .str z ∧ y = .int i ∧ z.length ≤ sizeLine ∧ atI z.cps.toList i = some c ∧ Q (.str ⟨#[c]⟩) H
theorem ix_list : IxR X (rIxL X.K) := by
  intro value slice pins s σ H x y v u Q I rx ry h hs
  obtain ⟨p, xs, i, z, rfl, rfl, hq, he, q⟩ := h
  cases rx
  obtain ⟨t, rfl⟩ := ry
  obtain ⟨its, r, pl, hz⟩ := I.list hq
  obtain ⟨j, h1, h2, h3, h4, h5⟩ := atI_get he
  obtain ⟨w, ew, rw'⟩ := r.get h2
  have hl := r.length
  have hn := line63
  have fin : EP X pins σ Q w s := ⟨z, H, I, rw', q⟩
  by_cases h0 : 0 ≤ i
  · have hj : i.toNat = j := by
      rw [seqIndex_of h0 h5] at h1
      exact Option.some.inj h1
    exact item_listR pl.isList h0 (by lia) (by rw [hj]; simpa using ew) fin hs
  · have hj : (i + (its.toArray.size : Int)).toNat = j := by
      rw [seqIndex_neg (by lia) h4] at h1
      rw [List.size_toArray, ← hl]
      exact Option.some.inj h1
    exact subscriptTail_builtinR (x := w) pl.isList.typeIs slot_list_getitem.lookup
      (wpAny_getItem_list_neg (Q := fun r s' => r = w ∧ EP X pins σ Q r s') pl.isList (by lia) (by rw [List.size_toArray] <;> lia) (by lia) (by rw [hj]; simpa using ew) ⟨rfl, fin⟩) hs
theorem ix_tup : IxR X (rIxT X.K) := by
  intro value slice pins s σ H x y v u Q I rx ry h hs
  obtain ⟨p, xs, i, z, rfl, rfl, hq, he, q⟩ := h
  cases rx
  obtain ⟨t, rfl⟩ := ry
  obtain ⟨its, r, pl, hz⟩ := I.tuple hq
  obtain ⟨j, h1, h2, h3, h4, h5⟩ := atI_get he
  obtain ⟨w, ew, rw'⟩ := r.get h2
  have hl := r.length
  have hn := line63
  have fin : EP X pins σ Q w s := ⟨z, H, I, rw', q⟩
  exact subscriptTail_builtinR (x := w) pl.typeIs slot_tuple_getitem.lookup
    (getItem_tuple (j := j) (Q := fun r s' => r = w ∧ EP X pins σ Q r s') pl (by lia) (by lia) (by rw [List.size_toArray, ← hl]; exact h1) (by simpa using ew) ⟨rfl, fin⟩) hs
theorem ix_str : IxR X rIxS := by
  intro value slice pins s σ H x y v u Q I rx ry h hs
  obtain ⟨z, i, c, rfl, rfl, hz, he, q⟩ := h
  obtain ⟨t, rfl⟩ := rx
  obtain ⟨t', rfl⟩ := ry
  obtain ⟨j, h1, h2, h3, h4, h5⟩ := atI_get he
  have hl : z.cps.toList.length = z.length := by simp [Str.length]
  rw [hl] at h1 h4 h5
  have hn := line63
  exact tail_any (typeIs_str s z t) slot_str_getitem.lookup (getItem_str (c := c) (by
    have e1 : decide (i < -(2 ^ 63 : Int)) = false := decide_eq_false (by lia)
    have e2 : decide (i ≥ 2 ^ 63) = false := decide_eq_false (by lia)
    rw [e1, e2, Bool.or_false]) (by rw [h1]; simpa using h2) ⟨.str ⟨#[c]⟩, H, I.tok _, ⟨_, rfl⟩, q⟩) hs
noncomputable def rIx (K : PySem.W.Frag) : R2 := fun x y H Q => rIxL K x y H Q ∨ rIxT K x y H Q ∨ rIxS x y H Q
theorem ix_seq : IxR X (rIx X.K) := ix_list.or (ix_tup.or ix_str)
theorem mapSeq_set (its : List Value) (n j : Nat) (u : Value) : Obj.mapSeq (·.setIfInBounds j u) { cls := .type "list", data := .seq its.toArray n } = { cls := .type "list", data := .seq (its.set j u).toArray n } := by
  simp [Obj.mapSeq]
theorem Inv.lst {pins : List (Addr × Obj)} {σ : St} {H : Hp} {s : Shared} {p : Addr} {xs : List V} (I : Inv X pins σ H s) (h : H p = some (.lst xs)) :
    ∃ (its : List Value) (n : Nat), Vals xs its ∧ s.heap.get? p = some { cls := .type "list", data := .seq its.toArray n } ∧ xs.length ≤ sizeLine := by
  obtain ⟨z, its, n, r, e⟩ := I.hok p _ h
  exact ⟨its, n, r, e, z⟩
theorem Inv.lstUpd {pins : List (Addr × Obj)} {σ : St} {H : Hp} {s : Shared} {p : Addr} {xs ys : List V} {its its' : List Value} {n n' : Nat} {f : Obj → Obj} (I : Inv X pins σ H s) (h : H p = some (.lst xs))
    (ho : s.heap.get? p = some { cls := .type "list", data := .seq its.toArray n }) (hf : f { cls := .type "list", data := .seq its.toArray n } = { cls := .type "list", data := .seq its'.toArray n' }) (r : Vals ys its') (hz : ys.length ≤ sizeLine) (t : Nat) :
    Inv X pins σ (upd H p (.lst ys)) { s with heap := s.heap.update p f, toks := t } := by
  have e : (s.heap.update p f).get? p = some { cls := .type "list", data := .seq its'.toArray n' } := by
    rw [Heap.get?_update_self f ho (by rw [hf] <;> rfl), hf]
  refine I.write (x := p) (e := p) (by rw [h]; trivial) (.inl rfl) (fun b u hb q => (Heap.get?_update_other _ _ (Ne.symm hb)).trans q) ⟨_, e⟩ ?_
  exact ⟨hz, its', n', r, e⟩
noncomputable def rSetL : V → V → V → Hp → (Hp → Prop) → Prop := fun o i v H Q => ∃ p xs k j, o = .ref p ∧ i = .int k ∧ H p = some (.lst xs) ∧ ixN xs.length k = some j ∧ Q (upd H p (.lst (xs.set j v)))
theorem set_list : PSet X rSetL := by
  intro pins s σ H o i v ov iv u Q I ro ri rv h
  obtain ⟨p, xs, k, j, rfl, rfl, hp, hj, q⟩ := h
  cases ro
  obtain ⟨t, rfl⟩ := ri
  obtain ⟨its, n, r, ho, hz⟩ := I.lst hp
  obtain ⟨h1, h2, h3, h4⟩ := ixN_seq hj
  have hl := r.length
  have hn := line63
  have I' : Inv X pins σ (upd H p (.lst (xs.set j v))) { s with heap := s.heap.update p (Obj.mapSeq (·.setIfInBounds j u)) } :=
    I.lstUpd hp ho (mapSeq_set its n j u) (r.set rv j) (by rw [List.length_set]; exact hz) s.toks
  by_cases h0 : 0 ≤ k
  · have hk : k.toNat = j := by
      rw [seqIndex_of h0 h4] at h1
      exact Option.some.inj h1
    exact PySem.W.ki_setAt ho h0 (by lia) (by rw [List.size_toArray, ← hl]; exact h4) (by rw [hk]; exact ⟨_, I', q⟩)
  · have hk : (k + (its.toArray.size : Int)).toNat = j := by
      rw [seqIndex_neg (by lia) h3] at h1
      rw [List.size_toArray, ← hl]
      exact Option.some.inj h1
    exact PySem.W.ki_setBack ho (by lia) (by rw [List.size_toArray, ← hl]; exact h3) (by lia) (by rw [hk]; exact ⟨_, I', q⟩)
theorem call_len_seq : CallR X (.builtin "len") (fun xs H Q => ∃ p ys, xs = [.ref p] ∧ (SqL X.K H p ys ∨ SqT X.K H p ys) ∧ Q (.int ys.length) H) := by
  intro pins s σ H xs us Q I r h
  obtain ⟨p, ys, rfl, hq, q⟩ := h
  obtain ⟨u, rfl, rx⟩ := vals1 r
  cases rx
  have hn := line63
  rcases hq with hq | hq
  · obtain ⟨its, r', pl, hz⟩ := I.list hq
    have hlen := r'.length
    exact Calls.call_len_list pl.isList (by simp only [List.size_toArray] <;> lia) ⟨.int ys.length, H, I.tok _, ⟨s.toks + 1, by rw [List.size_toArray, hlen]⟩, q⟩
  · obtain ⟨its, r', pl, hz⟩ := I.tuple hq
    have hlen := r'.length
    exact len_tuple pl (by simp only [List.size_toArray] <;> lia) ⟨.int ys.length, H, I.tok _, ⟨s.toks + 1, by rw [List.size_toArray, hlen]⟩, q⟩
theorem call_len_str : CallR X (.builtin "len") (fun xs H Q => ∃ z, xs = [.str z] ∧ z.length ≤ sizeLine ∧ Q (.int z.length) H) := by
  intro pins s σ H xs us Q I r h
  obtain ⟨z, rfl, hz, q⟩ := h
  obtain ⟨u, rfl, t, rfl⟩ := vals1 r
  have hn := line63
  exact len_str (by lia) ⟨.int z.length, H, I.tok _, ⟨_, rfl⟩, q⟩
theorem CallR.or {f : Value} {r r' : List V → Hp → VK → Prop} (h : CallR X f r) (h' : CallR X f r') : CallR X f (fun xs H Q => r xs H Q ∨ r' xs H Q) := by
  intro pins s σ H xs us Q I rs q
  rcases q with q | q
  · exact h pins s σ H xs us Q I rs q
  · exact h' pins s σ H xs us Q I rs q
noncomputable def tyV (K : PySem.W.Frag) (T : String) (x : V) (H : Hp) : Prop := match x with
  | .str _ => T = "str"
  | .int _ => T = "int"
  | .ref p => (T = "list" ∧ ∃ xs, SqL K H p xs) ∨ (T = "tuple" ∧ ∃ o, K.lookup p = some o ∧ o.cls = .type "tuple" ∧ o.dict = none) ∨
      (T = "dict" ∧ ((∃ kvs, H p = some (.dK kvs)) ∨ ∃ kvs, H p = some (.dT kvs))) ∨ (T = "set" ∧ ∃ S n, H p = some (.set S n))
  | _ => False
theorem tyV_is {pins : List (Addr × Obj)} {σ : St} {H : Hp} {s : Shared} {T : String} {x : V} {v : Value} (I : Inv X pins σ H s) (r : RelV x v) (ty : tyV X.K T x H) :
    s.TypeIs v T ∧ ∀ a, v = .ref a → ∃ ob, s.heap.get? a = some ob ∧ ob.dict = none := by
  cases x with
  | str z =>
    obtain ⟨t, rfl⟩ := r
    cases (show T = "str" from ty)
    exact ⟨typeIs_str s z t, fun _ e => nomatch e⟩
  | int i =>
    obtain ⟨t, rfl⟩ := r
    cases (show T = "int" from ty)
    exact ⟨typeIs_int s i t, fun _ e => nomatch e⟩
  | ref p =>
    cases r
    rcases ty with ⟨rfl, xs, hq⟩ | ⟨rfl, o, hk, hc, hd⟩ | ⟨rfl, hk⟩ | ⟨rfl, S, n, hk⟩
    · obtain ⟨its, _, pl, _⟩ := I.list hq
      refine ⟨pl.isList.typeIs, fun a e => ?_⟩
      cases e
      obtain ⟨o, n, e, c, hd, _⟩ := pl
      exact ⟨o, e, hd⟩
    · refine ⟨⟨o, I.kIn p o hk, hc⟩, fun a e => ?_⟩
      cases e
      exact ⟨o, I.kIn _ o hk, hd⟩
    · have z : ∃ o, s.heap.get? p = some o ∧ o.ExactDict := by
        rcases hk with ⟨kvs, hk⟩ | ⟨kvs, hk⟩
        · obtain ⟨_, _, _, _, o, _, _, e, ex, _⟩ := I.hok p _ hk
          exact ⟨o, e, ex⟩
        · obtain ⟨_, _, _, _, o, _, _, e, ex, _⟩ := I.hok p _ hk
          exact ⟨o, e, ex⟩
      obtain ⟨o, e, ex⟩ := z
      refine ⟨⟨o, e, ex.1⟩, fun a e2 => ?_⟩
      cases e2
      exact ⟨o, e, ex.2.1⟩
    · obtain ⟨o, _, _, _, e, ex, _⟩ := I.hok p _ hk
      refine ⟨⟨o, e, ex.1⟩, fun a e2 => ?_⟩
      cases e2
      exact ⟨o, e, ex.2.1⟩
  | _ => exact False.elim ty
noncomputable def tBM0 (K : PySem.W.Frag) (T : String) (r : V → List V → Hp → VK → Prop) (to : TE) : TE := fun σ H Q => to σ H fun x H1 => tyV K T x H1 ∧ r x [] H1 Q
noncomputable def tBM (K : PySem.W.Frag) (T : String) (r : V → List V → Hp → VK → Prop) (to : TE) (t : TA) : TE := fun σ H Q => to σ H fun x H1 => tyV K T x H1 ∧ t σ H1 fun xs H2 => r x xs H2 Q
variable {o e : Expr} {es : List Expr} {to : TE} {t : TA} {name : Str} {apos cpos : Pos} {T id : String} {r : V → List V → Hp → VK → Prop}
theorem pe_bm0 (pa : PlainAttrs T) (slot : Slot T name id) (hty : typeOf (.builtin id) = pure (.type "method_descriptor")) (hm : MtR X id r) (ho : PE X o to)
    (hbase : attributeBase o name X.env (eval o X.env) = eval o X.env := by rfl) (hline : (apos.endLine == cpos.line) = true := by rfl) : PE X (.Call (.Attribute o name apos) [] [] cpos) (tBM0 X.K T r to) := by
  intro pins s σ H Q I h
  refine wpAny_Call_method0_late hbase hline (thn (ho pins s σ H _ I h) fun v s1 ⟨x, H1, I1, r1, ty, q1⟩ => ?_)
  obtain ⟨h1, h2⟩ := tyV_is I1 r1 ty
  exact ⟨T, id, pa, slot, hty, h1, h2, Calls.callWith_builtin rfl (PySem.evalArgs_none (hm pins s1 σ H1 x [] v [] Q I1 r1 .nil q1))⟩
theorem pe_bm (pa : PlainAttrs T) (slot : Slot T name id) (hty : typeOf (.builtin id) = pure (.type "method_descriptor")) (hm : MtR X id r) (ho : PE X o to) (ha : PA X (e :: es) t)
    (hbase : attributeBase o name X.env (eval o X.env) = eval o X.env := by rfl)
    (hfew : ((backTo cpos (starEach (e :: es) X.env)).all (fun x => !x.1) && (backToKw cpos (keywordEach [] X.env)).all (fun x => x.1.isSome)
      && decide ((e :: es).length + ([] : List Keyword).length + (if ([] : List Keyword).isEmpty then 0 else 1) < 30)) = true := by rfl)
    (hline : (apos.endLine == cpos.line) = true := by rfl) (hs : starEach (e :: es) X.env = (false, eval e X.env) :: starEach es X.env := by rfl) (hplain : (backTo cpos (starEach es X.env)).any (·.1) = false := by rfl) :
    PE X (.Call (.Attribute o name apos) (e :: es) [] cpos) (tBM X.K T r to t) := by
  intro pins s σ H Q I h
  refine wpAny_Call_method_late hbase hfew hline rfl (thn (ho pins s σ H _ I h) fun v s1 ⟨x, H1, I1, r1, ty, q1⟩ => ?_)
  obtain ⟨h1, h2⟩ := tyV_is I1 r1 ty
  refine ⟨T, id, pa, slot, hty, h1, h2, ?_⟩
  have hA := ha cpos pins s1 σ H1 _ I1 q1
  rw [hs] at hA ⊢
  refine Calls.callWith_builtin (by show (false || (backTo cpos (starEach es X.env)).any (·.1)) = false; rw [hplain] <;> rfl) (Calls.evalArgs_plain ?_)
  exact thn hA fun us s2 ⟨vs, H2, I2, r2, q2⟩ => hm pins s2 σ H2 x vs v us Q I2 r1 r2 q2
end
end L2
namespace L2
open PySem PySem.Spec PyProof.Rows
noncomputable def MtM (X : Cx) (id : String) (r : V → List V → Hp → VK → Prop) : Prop :=
  ∀ (pins : List (Addr × Obj)) (s : Shared) (σ : St) (H : Hp) (x : V) (xs : List V) (v : Value) (us : List Value) (Q : VK), Inv X pins σ H s → RelV x v → Vals xs us → r x xs H Q →
    wpAny (model X.prog X.w) X.A (call (.builtin id) (v :: us)) (EP X pins σ Q) X.xe s
theorem Vals.one : ∀ {x : V} {us : List Value}, Vals [x] us → ∃ u, us = [u] ∧ RelV x u
  | _, _, .cons r .nil => ⟨_, rfl, r⟩
theorem Vals.two : ∀ {x y : V} {us : List Value}, Vals [x, y] us → ∃ u v, us = [u, v] ∧ RelV x u ∧ RelV y v
  | _, _, _, .cons r (.cons q .nil) => ⟨_, _, rfl, r, q⟩
theorem Vals.zero : ∀ {us : List Value}, Vals [] us → us = []
  | _, .nil => rfl
theorem Vals.dropLast {xs : List V} {us : List Value} (h : Vals xs us) : Vals xs.dropLast us.dropLast := by
  induction h with
  | nil => exact .nil
  | cons r t ih =>
    cases t with
    | nil => exact .nil
    | cons q t' => exact .cons r ih
theorem Vals.eraseIdx : ∀ {xs : List V} {us : List Value} (i : Nat), Vals xs us → Vals (xs.eraseIdx i) (us.eraseIdx i)
  | _, _, _, .nil => .nil
  | _, _, 0, .cons _ t => t
  | _, _, i + 1, .cons r t => .cons r (Vals.eraseIdx i t)
theorem Vals.rep {xs : List V} {us : List Value} (h : Vals xs us) : ∀ k : Nat, Vals (List.replicate k xs).flatten (List.replicate k us).flatten
  | 0 => .nil
  | k + 1 => by
    rw [List.replicate_succ, List.replicate_succ, List.flatten_cons, List.flatten_cons]
    exact Vals.append h (Vals.rep h k)
theorem erase_last {α : Type} (l : List α) : l.eraseIdx (l.length - 1) = l.dropLast := by
  induction l with
  | nil => rfl
  | cons a r ih =>
    cases r with
    | nil => rfl
    | cons b r =>
      have e : (a :: b :: r).length - 1 = ((b :: r).length - 1) + 1 := by
        have h1 : (a :: b :: r).length = r.length + 2 := rfl
        have h2 : (b :: r).length = r.length + 1 := rfl
        lia
      rw [e, List.eraseIdx_cons_succ, ih]
      all_goals rfl
theorem len_erase {α : Type} : ∀ (l : List α) (i : Nat), (l.eraseIdx i).length ≤ l.length
  | [], _ => Nat.le_refl _
  | _ :: _, 0 => Nat.le_succ _
  | _ :: r, i + 1 => Nat.succ_le_succ (len_erase r i)
theorem foldl_rep (its : List Value) : ∀ (k : Nat) (acc : List Value),
    List.foldl (fun x1 x2 => x1 ++ x2) acc.toArray (List.replicate k its.toArray) = (acc ++ (List.replicate k its).flatten).toArray
  | 0, acc => by simp
  | k + 1, acc => by
    have e : acc.toArray ++ its.toArray = (acc ++ its).toArray := by simp
    have e2 : (acc ++ its) ++ (List.replicate k its).flatten = acc ++ (List.replicate (k + 1) its).flatten := by
      rw [List.replicate_succ, List.flatten_cons, List.append_assoc]
    rw [← e2, ← foldl_rep its k (acc ++ its), ← e, List.replicate_succ, List.foldl_cons]
section
variable {X : Cx} {pins : List (Addr × Obj)} {σ : St} {H : Hp} {s : Shared} {l b : Addr} {xs ys zs : List V}
theorem Inv.lset {its its' : List Value} {n : Nat} {f : Array Value → Array Value} {t' : Nat} (I : Inv X pins σ H s) (hH : H l = some (.lst xs))
    (e : s.heap.get? l = some { cls := .type "list", data := .seq its.toArray n }) (hf : f its.toArray = its'.toArray) (hv : Vals ys its') (hz : ys.length ≤ sizeLine) :
    Inv X pins σ (upd H l (.lst ys)) { s with heap := s.heap.update l (Obj.mapSeq f), toks := t' } := by
  have q := PySem.IsL.update e f
  rw [hf] at q
  refine I.write (x := l) (e := l) (by rw [hH]; exact trivial) (.inl rfl) (fun b' u hb hu => (Heap.get?_update_other s.heap (Obj.mapSeq f) (Ne.symm hb)).trans hu) ⟨_, q⟩ ?_
  exact ⟨hz, its', _, hv, q⟩
theorem Inv.lnew {its : List Value} {t' : Nat} (I : Inv X pins σ H s) (hv : Vals ys its) (hz : ys.length ≤ sizeLine) :
    Inv X pins σ (upd H s.heap.objs.size (.lst ys)) { s with heap := s.heap.push { cls := .type "list", data := .seq its.toArray }, toks := t' } :=
  I.laid (fun _ _ q => Heap.get?_push_of_some _ q) (Nat.le_refl _) ⟨hz, its, 0, hv, Heap.get?_push_size _ rfl⟩
theorem Inv.fresh (I : Inv X pins σ H s) : H s.heap.objs.size = none := I.hok.fresh (Nat.le_refl _)
theorem Inv.lstM (I : Inv X pins σ H s) (hH : H l = some (.lst xs)) : xs.length ≤ sizeLine ∧ ∃ (its : List Value) (n : Nat), Vals xs its ∧ xs.length = its.length ∧ s.heap.get? l = some { cls := .type "list", data := .seq its.toArray n } := by
  obtain ⟨z, its, n, r, e⟩ := I.hok l _ hH
  exact ⟨z, its, n, r, r.length, e⟩
theorem notLongL {n : Nat} (h : n ≤ sizeLine) : Builtin.List.listTooLong n = false := by
  unfold Builtin.List.listTooLong
  exact decide_eq_false (by lia)
end
section
variable {X : Cx}
noncomputable def rAppend : V → List V → Hp → VK → Prop := fun x vs H Q => ∃ l xs y, x = .ref l ∧ vs = [y] ∧ H l = some (.lst xs) ∧ xs.length < sizeLine ∧ Q .non (upd H l (.lst (xs ++ [y])))
theorem mt_append : MtM X "list.append" rAppend := by
  intro pins s σ H x vs v us Q I rx rv h
  obtain ⟨l, xs, y, rfl, rfl, hH, hz, q⟩ := h
  cases rx
  obtain ⟨u, rfl, ru⟩ := rv.one
  obtain ⟨z, its, n, r, hl, e⟩ := I.lstM hH
  refine call_meets F.slot_list_append ⟨_, e, rfl⟩ F.entry_list_append (F.args_list_append_2 _ _) (PySem.list_append l its.toArray n u (by rw [List.size_toArray]; lia)) ⟨e, ?_⟩
  refine ⟨.non, _, I.lset (its' := its ++ [u]) hH e (by simp) (r.append (.cons ru .nil)) ?_, rfl, q⟩
  rw [List.length_append, List.length_singleton]
  lia
noncomputable def rExtend : V → List V → Hp → VK → Prop := fun x vs H Q => ∃ l b xs zs, x = .ref l ∧ vs = [.ref b] ∧ H l = some (.lst xs) ∧ H b = some (.lst zs) ∧ xs.length + zs.length ≤ sizeLine ∧ Q .non (upd H l (.lst (xs ++ zs)))
theorem mt_extend : MtM X "list.extend" rExtend := by
  intro pins s σ H x vs v us Q I rx rv h
  obtain ⟨l, b, xs, zs, rfl, rfl, hH, hB, hz, q⟩ := h
  cases rx
  obtain ⟨u, rfl, ru⟩ := rv.one
  cases ru
  obtain ⟨z, its, n, r, hl, e⟩ := I.lstM hH
  obtain ⟨z2, its2, n2, r2, hl2, e2⟩ := I.lstM hB
  have hsz : its.toArray.size + its2.toArray.size ≤ sizeLine := by rw [List.size_toArray, List.size_toArray]; lia
  have hlong : ¬ (!its.toArray.isEmpty && Builtin.List.listTooLong (its.toArray.size + its2.toArray.size)) = true := by
    rw [notLongL hsz, Bool.and_false]
    exact Bool.false_ne_true
  refine call_meets F.slot_list_extend ⟨_, e, rfl⟩ F.entry_list_extend (F.args_list_extend_2 _ _)
    (AutoSeq1.list_extend_list_list_0 l its.toArray n b its2.toArray n2 hlong (by rw [List.size_toArray]; lia) (by lia)) ⟨e, e2, ?_⟩
  refine ⟨.non, _, I.lset (its' := its ++ its2) hH e (by simp) (r.append r2) ?_, rfl, q⟩
  rw [List.length_append]
  lia
noncomputable def rPop : V → List V → Hp → VK → Prop := fun x vs H Q => ∃ l xs y, x = .ref l ∧ vs = [] ∧ H l = some (.lst xs) ∧ xs[xs.length - 1]? = some y ∧ Q y (upd H l (.lst xs.dropLast))
theorem mt_pop : MtM X "list.pop" rPop := by
  intro pins s σ H x vs v us Q I rx rv h
  obtain ⟨l, xs, y, rfl, rfl, hH, hy, q⟩ := h
  cases rx
  have hus := rv.zero
  subst hus
  obtain ⟨z, its, n, r, hl, e⟩ := I.lstM hH
  obtain ⟨u, hu, ru⟩ := r.get hy
  have hy' : its.toArray[its.toArray.size - 1]? = some u := by
    show its.toArray[its.length - 1]? = some u
    rw [← Array.getElem?_toList, ← hl]
    exact hu
  refine call_meets F.slot_list_pop ⟨_, e, rfl⟩ F.entry_list_pop (F.args_list_pop_1 _) (MeetsSeq.list_pop_last l its.toArray n u hy' (by rw [List.size_toArray]; lia)) ⟨e, ?_⟩
  refine ⟨y, _, I.lset (its' := its.dropLast) hH e ?_ r.dropLast ?_, ru, q⟩
  · show its.toArray.eraseIdxIfInBounds (its.toArray.size - 1) = its.dropLast.toArray
    rw [List.size_toArray, List.eraseIdxIfInBounds_toArray, erase_last]
  · rw [List.length_dropLast]
    lia
noncomputable def rPopAt : V → List V → Hp → VK → Prop := fun x vs H Q => ∃ l xs i k y, x = .ref l ∧ vs = [.int i] ∧ H l = some (.lst xs) ∧ -(2 ^ 63) ≤ i ∧ i < 2 ^ 63 ∧ seqIndex? i xs.length = some k ∧ xs[k]? = some y ∧ Q y (upd H l (.lst (xs.eraseIdx k)))
theorem mt_popAt : MtM X "list.pop" rPopAt := by
  intro pins s σ H x vs v us Q I rx rv h
  obtain ⟨l, xs, i, k, y, rfl, rfl, hH, h1, h2, hk, hy, q⟩ := h
  cases rx
  obtain ⟨u, rfl, ru⟩ := rv.one
  obtain ⟨t, rfl⟩ := ru
  obtain ⟨z, its, n, r, hl, e⟩ := I.lstM hH
  obtain ⟨w, hw, rw'⟩ := r.get hy
  refine call_meets F.slot_list_pop ⟨_, e, rfl⟩ F.entry_list_pop (F.args_list_pop_2 _ _)
    (MeetsSeq.list_pop_at l its.toArray n i t k w (fitsIndex_both h1 h2) (by rw [List.size_toArray, ← hl]; exact hk) (by rw [← Array.getElem?_toList]; exact hw) (by rw [List.size_toArray]; lia)) ⟨e, ?_⟩
  refine ⟨y, _, I.lset (its' := its.eraseIdx k) hH e ?_ (r.eraseIdx k) ?_, rw', q⟩
  · show its.toArray.eraseIdxIfInBounds k = (its.eraseIdx k).toArray
    rw [List.eraseIdxIfInBounds_toArray]
  · have := len_erase xs k
    lia
noncomputable def rCat : R2 := fun x y H Q => ∃ l b xs zs, x = .ref l ∧ y = .ref b ∧ H l = some (.lst xs) ∧ H b = some (.lst zs) ∧ xs.length + zs.length ≤ sizeLine ∧ ∀ p, H p = none → Q (.ref p) (upd H p (.lst (xs ++ zs)))
theorem op_cat : OpR X (binaryOp .Add) rCat := by
  intro pins s σ H x y v u Q I rx ry h
  obtain ⟨l, b, xs, zs, rfl, rfl, hH, hB, hz, q⟩ := h
  cases rx
  cases ry
  obtain ⟨z, its, n, r, hl, e⟩ := I.lstM hH
  obtain ⟨z2, its2, n2, r2, hl2, e2⟩ := I.lstM hB
  refine PySem.P.add_list e e2 ?_ (by rw [List.size_toArray, List.size_toArray]; lia)
  have ea : its.toArray ++ its2.toArray = (its ++ its2).toArray := by simp
  rw [ea]
  exact ⟨.ref _, _, I.lnew (t' := s.toks) (r.append r2) (by rw [List.length_append]; lia), rfl, q _ I.fresh⟩
noncomputable def rRep : R2 := fun x y H Q => ∃ l k xs, x = .ref l ∧ y = .int k ∧ H l = some (.lst xs) ∧ -(2 ^ 63) ≤ k ∧ k < 2 ^ 63 ∧ xs.length * k.toNat ≤ sizeLine ∧
  ∀ p, H p = none → Q (.ref p) (upd H p (.lst (List.replicate k.toNat xs).flatten))
theorem len_rep {α : Type} (xs : List α) (k : Nat) : (List.replicate k xs).flatten.length = k * xs.length := by
  induction k with
  | zero => simp
  | succ k ih => rw [List.replicate_succ, List.flatten_cons, List.length_append, ih, Nat.succ_mul, Nat.add_comm]
theorem op_rep : OpR X (binaryOp .Mult) rRep := by
  intro pins s σ H x y v u Q I rx ry h
  obtain ⟨l, k, xs, rfl, rfl, hH, h1, h2, hz, q⟩ := h
  cases rx
  obtain ⟨t, rfl⟩ := ry
  obtain ⟨z, its, n, r, hl, e⟩ := I.lstM hH
  have hlen : its.toArray.size * k.toNat ≤ sizeLine := by rw [List.size_toArray, ← hl]; exact hz
  have hcap : ¬ its.toArray.size * k.toNat > (2 ^ 63 - 1) / 8 := by
    have : (sizeLine : Nat) ≤ (2 ^ 63 - 1) / 8 := by decide
    lia
  have hfit : ¬ (!Builtin.List.listFitsIndex k) = true := by
    rw [fitsIndex_both h1 h2]
    exact Bool.false_ne_true
  have hlong : ¬ Builtin.List.listTooLong (its.toArray.size * k.toNat) = true := by
    rw [notLongL hlen]
    exact Bool.false_ne_true
  have hnew : List.foldl (fun x1 x2 => x1 ++ x2) #[] (List.replicate (if its.toArray.isEmpty = true then 0 else k.toNat) its.toArray) = (List.replicate k.toNat its).flatten.toArray := by
    have f0 : ∀ m : Nat, List.foldl (fun x1 x2 => x1 ++ x2) #[] (List.replicate m its.toArray) = (List.replicate m its).flatten.toArray := fun m => by
      have := foldl_rep its m []
      rw [List.nil_append] at this
      exact this
    rw [f0]
    cases its with
    | nil => simp
    | cons a r' => rw [if_neg (by simp)]
  refine wpAny_binaryOp_repeat_ref (T := "list") (U := "int") (by decide) ⟨_, e, rfl⟩ (fun s' => typeIs_int s' k t) noFill_list_mul F.fills_int_mul F.slot_int_rmul repeat_list F.slot_int_index.lookup
    (call_meets F.slot_int_rmul (typeIs_int s k t) F.entry_int_rmul (F.args_int_rmul_2 _ _) (int___rmul___int_list k t l its.toArray n)
      ⟨e, rfl, ⟨_, e, rfl⟩, call_meets F.slot_list_mul ⟨_, e, rfl⟩ F.entry_list_mul (F.args_list_mul_2 _ _) (AutoListH.list___mul___list_int_3 l its.toArray n k t hfit hcap hlong) ⟨e, ?_⟩⟩)
  rw [hnew]
  exact ⟨.ref _, _, I.lnew (t' := s.toks) (r.rep k.toNat) (by rw [len_rep, Nat.mul_comm]; exact hz), rfl, q _ I.fresh⟩
end
section
variable {prog : Program} {w : World} {A : Around} {E : Value → Shared → Prop} {s : Shared}
set_option maxRecDepth 100000 in
end
section
variable {X : Cx}
end
end L2
namespace Att
open PySem PySem.W PySem.Calls PyProof.Rows
theorem ints_of_wellAll {P : Params} {h : Heap} : ∀ (ns : List Int) (vs : List Value), WellAll P h vs (ns.map WData.int) → IntsAre vs ns := by
  intro ns
  induction ns with
  | nil =>
    intro vs w
    rw [List.map_nil] at w
    cases w
    exact .nil
  | cons n ns ih =>
    intro vs w
    rw [List.map_cons] at w
    cases w with
    | cons a b =>
      cases a
      exact .cons _ _ (ih _ b)
theorem script_of {l : OpenLaw} {n : Nat} (hn : l.most = some n) {P : Params} {h : Heap} {args : List WData} {vals : List Value}
    (hpre : l.row.toRowW.claim.pre args = true) (hwl : WellAll P h vals args) :
    ∃ a vs ns, vals = [Value.ref a] ∧ args = [WData.list (ns.map WData.int)] ∧ h.get? a = some { cls := .type "list", data := .seq vs.toArray } ∧ IntsAre vs ns ∧ ns.length ≤ n := by
  have hsh : WShape.hasAll [] args [.list .int] = true := (pre_splitW hpre).1
  have hc : l.pre.holds [] { args := args } = true := (pre_splitW hpre).2
  obtain ⟨d, r, rfl, h1, h2⟩ := hasAllW_cons hsh
  obtain rfl := hasAllW_nil h2
  obtain ⟨xs, rfl, h3⟩ := hasW_list h1
  obtain ⟨ns, rfl⟩ := items_int h3
  have hlen : ns.length ≤ n := by
    unfold OpenLaw.pre at hc
    have h4 : (WTm.not (.lt (.lit (.int (n : Int))) (.len (.arg 0)))).holds [] { args := [.list (ns.map .int)] } = true := by
      have h4 := (holds_andW hc).1
      rw [hn] at h4
      exact h4
    have h5 := condW_of h4 (w_not (w_lt w_lit (w_len_list (w_arg rfl))))
    rw [List.length_map] at h5
    refine Nat.le_of_not_lt fun q => ?_
    have q' : (n : Int) < ((ns.length : Nat) : Int) := by lia
    first
      | (rw [decide_eq_true q'] at h5; exact absurd h5 (by decide))
      | (simp at h5; lia)
  cases hwl with
  | cons w1 w2 =>
    cases w2
    cases w1 with
    | list ho hall => exact ⟨_, _, ns, rfl, rfl, ho, ints_of_wellAll ns _ hall, hlen⟩
theorem post_true (l : OpenLaw) (args : List WData) : l.row.toRowW.claim.post args (.bool true) args = true :=
  postW_of (r := l.row.toRowW) (X := (true == true))
    (show WShape.has [] (.bool true) .bool = true by first | rfl | decide | simp [WShape.has, WShape.arms, WShape.armsAll])
    (show (WTm.eq .res (.lit (.bool true))).value [] { args := args, res := some (.bool true), after := args } = some (.bool (true == true)) from w_eq_bool (w_res rfl) w_lit) rfl
theorem attach_call {l : OpenLaw} {n : Nat} {q : Program} {loose : List Str} {XP : (Str → Option Value) → Heap → Prop} {YP : World → Heap → Prop} {d : DefRec}
    (hn : l.most = some n) (hdf : d.params.defaults = [])
    (call : ∀ (w : World) (s₀ s₁ : Shared) (mg mb : Str → Option Value) (fa : Addr) (o : Obj) (pm cd doc : Value) (a : Addr) (vs : List Value) (ns : List Int),
      Ground q loose [] XP w s₀ mg mb s₁.heap → YP w s₁.heap →
      s₁.heap.get? fa = some o → o.data = .func (docDef d.name d.params d.body d.scope pm cd doc) → s₁.heap.CodeRec cd d.name → mg d.name = some (.ref fa) →
      s₁.heap.get? a = some { cls := .type "list", data := .seq vs.toArray } → IntsAre vs ns → ns.length ≤ n → s₁.gens = #[] →
      codeAny (model l.prog w) callerA (.call (.ref fa) ⟨[.ref a], []⟩) (fun r s' => r = .ok (.ret (.bool true)) ∧ OldK s₁.heap s'.heap ∧ s'.os = s₁.os ∧ AllBare s'.gens) s₁) :
    WalkO q loose XP YP l.row.toRowW d [] (fun f vs => PySem.call f vs) := by
  intro w s₀ s₁ mg mb G Y fa o pm cd doc dV kV ho hd hcd hD hmg hg args vals as hpre hlay hrd hwl hlo
  obtain rfl : dV = .none := Dflts.none hD hdf
  obtain rfl : kV = .none := Dflts.noKw hD
  obtain ⟨a, vs, ns, rfl, rfl, hobj, hints, hlen⟩ := script_of hn hpre hwl
  refine enter_call (codeAny_mono (call w s₀ s₁ mg mb fa o pm cd doc a vs ns G Y ho (fd_plain hd) hcd hmg hobj hints hlen hg) fun r s' hq => ?_)
  obtain ⟨rfl, h2, h3, h4⟩ := hq
  exact ⟨.inl ⟨.bool true, .bool true, [], rfl, fun _ => rfl, .bool true, post_true l _, fun _ => ⟨List.Pairwise.nil, fun _ hm => (nomatch hm)⟩⟩, h2, h3, h4⟩
section
variable {prog : Program} {w : World} {A : Around} {E : Value → Shared → Prop} {s : Shared} {K : Frag}
end
end Att
namespace L2
open PySem PySem.Spec PyProof.Rows
theorem vals_ints : ∀ {vs : List Value} {ns : List Int}, IntsAre vs ns → Vals (ns.map V.int) vs
  | _, _, .nil => .nil
  | _, _, .cons n t h => .cons ⟨t, rfl⟩ (vals_ints h)
noncomputable def Only (H : Hp) : Prop := ∀ b, H b = none ∨ ∃ o xs, H b = some (.frz o (.lst xs))
theorem law_call {P : Program} {w : World} {K : PySem.W.Frag} {mg mb : Str → Option Value} {CX : CXT} {k : Nat} {fa a : Addr} {fd : FuncData} {x : Str} {sp : Sp} {s₁ : Shared} {vs : List Value} {ns : List Int}
    (KX : K.In s₁.heap) (hns : s₁.heap.Ns mainGlobals mg) (hb : s₁.heap.Ns builtinsNs mb) (hbb : ∀ x : Str, x ≠ "__name__" → mb x = bootBuiltins x) (hlim : s₁.heap.NoLimit) (hg : s₁.gens = #[])
    (ha : s₁.heap.get? a = some { cls := .type "list", data := .seq vs.toArray }) (hi : IntsAre vs ns) (hl : ns.length ≤ sizeLine) (hr : Room k callerA)
    (F : ∀ base : Heap, K.In base → base.Ns mainGlobals mg → FnOk P w K mg base CX k fa fd [x] sp) (hbind : ∀ (s : Shared) (u : Value), BindsTo s fd ⟨[u], []⟩ [(x, u)])
    (hsp : ∀ H : Hp, Only H → SqL K H a (ns.map V.int) → sp [.ref a] H (fun v _ => v = .bl true) fun _ _ _ => False)
    (hCX : ∀ H e s', CX [] H s₁ (fun _ _ _ => False) e s' → False) :
    codeAny (model P w) callerA (.call (.ref fa) ⟨[.ref a], []⟩) (fun r s' => r = .ok (.ret (.bool true)) ∧ OldK s₁.heap s'.heap ∧ s'.os = s₁.os ∧ AllBare s'.gens) s₁ := by
  have rv := vals_ints hi
  have lenV := hi.length
  have core : ∀ H : Hp, Only H → SqL K H a (ns.map V.int) → HOk P w H s₁.heap → (∀ b, H b ≠ none → b = a) → (H a ≠ none → K.lookup a = none) →
      codeAny (model P w) callerA (.call (.ref fa) ⟨[.ref a], []⟩) (fun r s' => r = .ok (.ret (.bool true)) ∧ OldK s₁.heap s'.heap ∧ s'.os = s₁.os ∧ AllBare s'.gens) s₁ := by
    intro H hO hS hok hA hK
    have base_of : ∀ {b : Addr} {o : Obj}, s₁.heap.get? b = some o → H b = none → (hidT s₁.heap H).get? b = some o := fun e n => hidT_get e n
    have noA : ∀ {b : Addr} {o : Obj} {es : Array DictEntry} {ep : Nat}, s₁.heap.get? b = some o → o.data = .dict es ep → H b = none := fun {b o es ep} e d => by
      cases q : H b with
      | none => rfl
      | some u =>
        have e' : b = a := hA b (by rw [q]; simp)
        subst e'
        rw [ha] at e; cases e
        have d' : Data.seq vs.toArray _ = Data.dict es ep := d
        cases d'
    have nsK : ∀ {b : Addr} {m : Str → Option Value}, s₁.heap.Ns b m → (hidT s₁.heap H).Ns b m := fun {b m} ⟨o, es, ep, e, d, r⟩ => ⟨o, es, ep, base_of e (noA e d), d, r⟩
    have hKb : K.In (hidT s₁.heap H) := fun b o e => base_of (KX b o e) (by
      cases q : H b with
      | none => rfl
      | some u =>
        have e' : b = a := hA b (by rw [q]; simp)
        subst e'
        rw [hK (by rw [q]; simp)] at e; cases e)
    have hM : Mod K mg (hidT s₁.heap H) := ⟨hKb, nsK hns, ⟨mb, nsK hb, hbb⟩, let ⟨mc, h1, h2⟩ := hlim; ⟨mc, nsK h1, h2⟩⟩
    have e0 : Env0 P w K mg (hidT s₁.heap H) callerA [] s₁ H := ⟨rfl, hM, fun b o e => of_hidT e, Nat.le_of_eq (hidT_size _ _), trivial, fun b hb => absurd (show b ∈ ([] : List Addr) from hb) (by simp), hok, .of_eq hg⟩
    refine codeAny_mono ((F _ hKb (nsK hns)).run callerA [] s₁ H ⟨[.ref a], []⟩ [.ref a] [.ref a] _ _ hr e0 (hbind s₁ (.ref a)) (.cons rfl .nil) (hsp H hO hS)) fun r s' h => ?_
    cases r with
    | error e => exact (hCX H e s' h).elim
    | ok fl =>
      cases fl with
      | next => exact False.elim h
      | brk => exact False.elim h
      | cont => exact False.elim h
      | ret u =>
        obtain ⟨v, H', os, bare, un, hok', r', q⟩ := h
        have q' : v = .bl true := q
        subst q'
        obtain rfl : u = Value.bool true := r'
        refine ⟨rfl, OldK.of_keep fun b o e => ?_, os, bare⟩
        cases q : H b with
        | none => exact un.keep b o e q (by intro z; exact absurd (show b ∈ ([] : List Addr) from z) (by simp)) (by simp)
        | some u =>
          rcases hO b with z | ⟨ob, xs, z⟩
          · rw [q] at z; cases z
          · have z2 := un.frzs b ob _ z
            obtain ⟨e1, _⟩ := hok b _ z
            obtain ⟨e2, _⟩ := hok' b _ z2
            rw [e] at e1; cases e1
            exact e2
  cases hk : K.lookup a with
  | some o =>
    have e := KX a o hk
    rw [ha] at e
    cases e
    refine core (fun _ => none) (fun _ => .inl rfl) (.inr ⟨_, vs.toArray, _, hk, rfl, rfl, rfl, by rw [List.size_toArray, lenV]; exact hl, by simpa using rv⟩) (fun b u z => by have z' : (none : Option HO) = some u := z; cases z') (fun b z => absurd rfl z) fun z => absurd rfl z
  | none =>
    refine core (fun b => if b = a then some (.frz { cls := .type "list", data := .seq vs.toArray } (.lst (ns.map V.int))) else none) (fun b => ?_) (.inl (.inr ⟨{ cls := .type "list", data := .seq vs.toArray }, if_pos rfl⟩)) (fun b u z => ?_) (fun b z => ?_) fun _ => hk
    · by_cases hb : b = a
      · exact .inr ⟨_, _, if_pos hb⟩
      · exact .inl (if_neg hb)
    · by_cases hb : b = a
      · have z' := (if_pos hb).symm.trans z
        cases z'
        subst hb
        exact ⟨ha, by rw [List.length_map]; exact hl, vs, _, rv, ha⟩
      · have z' := (if_neg hb).symm.trans z
        cases z'
    · by_cases hb : b = a
      · exact hb
      · exact absurd (if_neg hb) z
end L2
namespace L2
open PySem PySem.Spec PyProof.Rows
theorem walk_of {l : PySem.W.OpenLaw} {n k : Nat} {q : Program} {loose : List Str} {XP : (Str → Option Value) → Heap → Prop} {YP : World → Heap → Prop} {d : DefRec} {K : Params → PySem.W.Frag} {CX : World → CXT} {sp : World → Sp} {x : Str}
    (hn : l.most = some n) (hn2 : n ≤ sizeLine) (hdf : d.params.defaults = []) (hr : Room k callerA)
    (hY : ∀ (w : World) (h : Heap), YP w h → (K w.params).In h)
    (F : ∀ (w : World) (mg : Str → Option Value) (fa : Addr) (h : Heap), (K w.params).In h → h.Ns mainGlobals mg → mg d.name = some (.ref fa) →
      ∃ fd : FuncData, (∀ (s : Shared) (u : Value), BindsTo s fd ⟨[u], []⟩ [(x, u)]) ∧
        ∀ base : Heap, (K w.params).In base → base.Ns mainGlobals mg → FnOk l.prog w (K w.params) mg base (CX w) k fa fd [x] (sp w))
    (hsp : ∀ (w : World) (H : Hp) (a : Addr) (ns : List Int), ns.length ≤ n → Only H → SqL (K w.params) H a (ns.map V.int) → sp w [.ref a] H (fun v _ => v = .bl true) fun _ _ _ => False)
    (hCX : ∀ (w : World) (H : Hp) (s : Shared) (e : Value) (s' : Shared), CX w [] H s (fun _ _ _ => False) e s' → False) :
    PySem.W.WalkO q loose XP YP l.row.toRowW d [] (fun f vs => PySem.call f vs) := by
  refine Att.attach_call hn hdf fun w s₀ s₁ mg mb fa o pm cd doc a vs ns G Y ho hd hcd hmg hobj hints hlen hg => ?_
  have KX := hY w _ Y
  obtain ⟨fd, hb, hF⟩ := F w mg fa _ KX G.T.g hmg
  exact law_call KX G.T.g G.T.b G.T.builtins G.T.nolimit hg hobj hints (Nat.le_trans hlen hn2) hr hF hb (fun H hO hS => hsp w H a ns hlen hO hS) fun H e s' => hCX w H s₁ e s'
end L2
namespace L2
open PySem PySem.Spec PyProof.Rows
noncomputable def inClass (s : Stmt) (j : Nat) : Stmt := match s with
  | .ClassDef _ _ _ body _ _ _ _ _ _ _ => body.getD j (.Pass ⟨0, 0, 0, 0⟩)
  | _ => .Pass ⟨0, 0, 0, 0⟩
noncomputable def zxc (s : Stmt) : Arguments := match s with
  | .FunctionDef _ a _ _ _ _ _ _ _ _ => a
  | _ => { posonlyargs := [], args := [], vararg := none, kwonlyargs := [], kw_defaults := [], kwarg := none, defaults := [] }
noncomputable def zxa (s : Stmt) : List Stmt := match s with
  | .FunctionDef _ _ b _ _ _ _ _ _ _ => b
  | _ => []
noncomputable def zzj (s : Stmt) : Scope := match s with
  | .FunctionDef _ _ _ _ _ _ sc _ _ _ => sc
  | _ => { kind := .function, names := [], isGenerator := false, isCoroutine := false }
noncomputable abbrev CX0 : CXT := fun _ _ _ _ _ _ => False
noncomputable abbrev E0 : XK := fun _ _ _ => False
structure Fun (K : PySem.W.Frag) (x qual : Str) (st : Stmt) (f : Addr) (fd : FuncData) : Prop where
  ex : ∃ (oc : Value) (od : Option Addr) (kV doc pm : Value) (an : Option Addr) (cdv ct : Value) (osl : Array (Option Value)),
    fd = PySem.W.fnOf x qual (zxc st) (zxa st) (zzj st) .none kV doc pm an cdv ct ∧ K.lookup f = some ⟨oc, od, .func fd, osl⟩ ∧ PySem.W.codeIn K cdv qual = true
  kp : PySem.W.keepIn K (.ref f) = true
section
variable {P : Program} {w : World} {K : PySem.W.Frag} {mg : Str → Option Value} {base : Heap}
theorem Fun.ok {x qual : Str} {st : Stmt} {f : Addr} {fd : FuncData} {N ps : List Str} {k : Nat} {sp : Sp} (F : Fun K x qual st f fd) (S : FnScope N ps (zzj st)) (len : ∀ vs H Q E, sp vs H Q E → vs.length = ps.length)
    (hbody : ∀ (cdv : Value) (A : Around) (outer : List Env) (s : Shared) (H : Hp) (vs : List V) (Q : VK) (E : XK), Room k (A.deeper (envOfC qual (zzj st) s.heap.objs.size f cdv)) → sp vs H Q E →
      ∃ t, PSs (cxOf CX0 P w K mg base N qual (zzj st) f cdv A outer s H E).nox (zxa st) t ∧ t { nx := fun _ H' => Q .non H', rt := Q } (start N vs) H) : FnOk P w K mg base CX0 (k + 1) f fd ps sp := by
  obtain ⟨oc, od, kV, doc, pm, an, cdv, ct, osl, rfl, lk, hcd⟩ := F.ex
  refine fn_of lk hcd S len fun A outer s H vs Q E hr hsp => ?_
  obtain ⟨t, h, q⟩ := hbody cdv A outer s H vs Q E hr hsp
  exact ⟨t, h.nox, q⟩
theorem Fun.binds {x qual : Str} {st : Stmt} {f : Addr} {fd : FuncData} {ps : List Str} (F : Fun K x qual st f fd)
    (h : ∀ (kV doc pm : Value) (an : Option Addr) (cdv ct : Value) (us : List Value), us.length = ps.length → bindArgs (PySem.W.fnOf x qual (zxc st) (zxa st) (zzj st) .none kV doc pm an cdv ct) ⟨us, []⟩ = pure (ps.zip us)) : Binds K fd ps [] := by
  obtain ⟨oc, od, kV, doc, pm, an, cdv, ct, osl, rfl, lk, hcd⟩ := F.ex
  exact .all (h kV doc pm an cdv ct)
theorem fun_mk {x qual : Str} {st : Stmt} {f : Addr} {oc : Value} {od an : Option Addr} {osl : Array (Option Value)} {kV doc pm cdv ct : Value} (l : K.lookup f = some ⟨oc, od, .func (PySem.W.fnOf x qual (zxc st) (zxa st) (zzj st) .none kV doc pm an cdv ct), osl⟩)
    (c : PySem.W.codeIn K cdv qual = true) (k : PySem.W.keepIn K (.ref f) = true) : Fun K x qual st f (PySem.W.fnOf x qual (zxc st) (zxa st) (zzj st) .none kV doc pm an cdv ct) := ⟨⟨oc, od, kV, doc, pm, an, cdv, ct, osl, rfl, l, c⟩, k⟩
end
section
variable {X : Cx}
theorem pv (i : Nat) {x : Str} {pos : Pos} (hN : X.N[i]? = some x := by rfl) (hv : Vis X.env.scope x := by first | exact Or.inl rfl | exact Or.inr (Or.inl rfl) | exact Or.inr (Or.inr rfl)) (hd : (x == ("__debug__" : Str)) = false := by decide)
    (hcd : (x == ("__classdict__" : Str)) = false := by decide) : PE X (.Name x pos) (tVar i) := pe_var hN hv hd hcd
end
theorem iteF {A B : Prop} (h : B) : if false = true then A else B := by
  rw [if_neg Bool.false_ne_true]
  exact h
theorem iteT {A B : Prop} (h : A) : if true = true then A else B := by
  rw [if_pos rfl]
  exact h
noncomputable def Same (H H' : Hp) : Prop := ∀ b o, H b = some o → H' b = some o
theorem Same.refl (H : Hp) : Same H H := fun _ _ h => h
theorem Same.trans {H H1 H2 : Hp} (a : Same H H1) (b : Same H1 H2) : Same H H2 := fun c o h => b c o (a c o h)
theorem Same.free {H H' : Hp} (e : Same H H') {l : Addr} (h : H' l = Option.none) : H l = Option.none := by
  cases q : H l with
  | none => rfl
  | some o =>
    rw [e l o q] at h
    cases h
theorem Same.seq {K : PySem.W.Frag} {H H' : Hp} {a : Addr} {xs : List V} (e : Same H H') (h : SqL K H a xs) : SqL K H' a xs := by
  rcases h with (h | ⟨o, h⟩) | h
  · exact .inl (.inl (e _ _ h))
  · exact .inl (.inr ⟨o, e _ _ h⟩)
  · exact .inr h
end L2
set_option Elab.async false
set_option linter.all false
set_option maxRecDepth 100000
set_option maxHeartbeats 4000000
namespace L2
open PySem PySem.Spec PyProof.Rows
noncomputable def closL (cells : List (Str × Addr)) : List (Str × NameKind) → List (Str × Addr) → List (Str × Addr)
  | [], acc => acc
  | (n, k) :: r, acc => if (k == NameKind.free) = true then (match cells.lookup n with | some c => closL cells r ((n, c) :: acc) | none => closL cells r acc) else closL cells r acc
theorem closL_eq {env : Env} : ∀ (names : List (Str × NameKind)) (acc : List (Str × Addr)), (∀ y ∈ names, y.2 = .free → ∃ c, env.cells.lookup y.1 = some c) →
    (forIn names acc fun (x : Str × NameKind) (r : List (Str × Addr)) => (do
      if (x.2 == NameKind.free) = true then do
        let c ← cellOf env x.1
        pure (ForInStep.yield ((x.1, c) :: r))
      else pure (ForInStep.yield r) : Sem (ForInStep (List (Str × Addr))))) = pure (closL env.cells names acc)
  | [], acc, _ => rfl
  | (n, k) :: r, acc, h => by
    rw [List.forIn_cons]
    by_cases hk : k = .free
    · subst hk
      obtain ⟨c, hc⟩ := h (n, .free) List.mem_cons_self rfl
      have e1 : cellOf env n = pure c := by unfold cellOf; rw [show env.cells.lookup n = some c from hc]
      simp only [beq_self_eq_true, if_true, e1, pure_bind, closL]
      rw [show env.cells.lookup n = some c from hc]
      exact closL_eq r _ fun y hy => h y (List.mem_cons_of_mem _ hy)
    · have hb : (k == NameKind.free) = false := by simpa using hk
      simp only [hb, Bool.false_eq_true, if_false, pure_bind, closL]
      exact closL_eq r _ fun y hy => h y (List.mem_cons_of_mem _ hy)
theorem closFor {scope : Scope} {env : Env} (h : ∀ y ∈ scope.names, y.2 = .free → ∃ c, env.cells.lookup y.1 = some c) : closureFor scope env = pure (closL env.cells scope.names []) := by
  have e := closL_eq (env := env) scope.names [] h
  unfold closureFor
  rw [← bind_pure (pure (closL env.cells scope.names []) : Sem (List (Str × Addr))), ← e]
theorem addr_ne {h : Heap} {b : Addr} {n : Nat} {o : Obj} (h1 : h.get? b = some o) (h2 : h.objs.size ≤ n) : b ≠ n := fun z => absurd (Heap.lt_size h1) (by rw [z]; exact Nat.not_lt.mpr h2)
theorem addr_lt {a : Nat} {b : Addr} {n : Nat} (h1 : b < a) (h2 : a ≤ n) : b ≠ n := fun z => absurd h1 (by rw [z]; exact Nat.not_lt.mpr h2)
theorem zjc {cells : List (Str × Addr)} {x : Str} {c : Addr} : ∀ {names : List (Str × NameKind)} {acc : List (Str × Addr)}, (∀ d, acc.lookup x = some d → cells.lookup x = some d) → (closL cells names acc).lookup x = some c → cells.lookup x = some c
  | [], acc, ha, h => ha c h
  | (n, k) :: r, acc, ha, h => by
    unfold closL at h
    split at h
    · split at h
      · rename_i d hd
        refine zjc (names := r) (fun e he => ?_) h
        by_cases hx : x = n
        · subst hx
          simp only [List.lookup_cons, beq_self_eq_true] at he
          rw [hd]; exact he
        · have hb : (x == n) = false := by simpa using hx
          simp only [List.lookup_cons, hb] at he
          exact ha e he
      · exact zjc (names := r) ha h
    · exact zjc (names := r) ha h
theorem closL_acc {cells : List (Str × Addr)} {x : Str} : ∀ {names : List (Str × NameKind)} {acc : List (Str × Addr)}, (∃ d, acc.lookup x = some d) → ∃ c, (closL cells names acc).lookup x = some c
  | [], acc, h => h
  | (n, k) :: r, acc, h => by
    unfold closL
    split
    · split
      · rename_i d hd
        refine closL_acc (names := r) ?_
        by_cases hx : x = n
        · subst hx; exact ⟨d, by simp [List.lookup_cons]⟩
        · have hb : (x == n) = false := by simpa using hx
          obtain ⟨e, he⟩ := h
          exact ⟨e, by simpa [List.lookup_cons, hb] using he⟩
      · exact closL_acc (names := r) h
    · exact closL_acc (names := r) h
theorem closL_has {cells : List (Str × Addr)} {x : Str} {c : Addr} (hc : cells.lookup x = some c) : ∀ {names : List (Str × NameKind)} {acc : List (Str × Addr)}, (x, NameKind.free) ∈ names → ∃ d, (closL cells names acc).lookup x = some d
  | [], _, h => nomatch h
  | (n, k) :: r, acc, h => by
    rcases List.mem_cons.mp h with e | h
    · cases e
      unfold closL
      rw [if_pos (by simp)]
      rw [hc]
      exact closL_acc ⟨c, by simp [List.lookup_cons]⟩
    · unfold closL
      split
      · split <;> exact closL_has hc (names := r) h
      · exact closL_has hc (names := r) h
theorem relabel_kind {env : Env} {x : Str} : ∀ {names : List (Str × NameKind)} {k : NameKind},
    (names.map fun (n, k) => if (k == NameKind.free && env.scope.kind == .function && env.kindOf n == some .cell) then (n, NameKind.cell) else (n, k)).lookup x = some k →
    names.lookup x = some k ∨ (k = .cell ∧ names.lookup x = some .free)
  | [], k, h => by simp at h
  | (n, k0) :: r, k, h => by
    have ih := @relabel_kind env x r k
    rw [List.map_cons] at h
    by_cases hx : x = n
    · subst hx
      by_cases hc : (k0 == NameKind.free && env.scope.kind == .function && env.kindOf x == some .cell) = true
      · simp only [hc, if_true, List.lookup_cons, beq_self_eq_true] at h
        have h0 : k0 = .free := by
          simp only [Bool.and_eq_true, beq_iff_eq] at hc
          exact hc.1.1
        subst h0
        cases h
        exact .inr ⟨rfl, by simp [List.lookup_cons]⟩
      · have hc' : (k0 == NameKind.free && env.scope.kind == .function && env.kindOf x == some .cell) = false := by simpa using hc
        simp only [hc', Bool.false_eq_true, if_false, List.lookup_cons, beq_self_eq_true] at h
        cases h
        exact .inl (by simp [List.lookup_cons])
    · have hb : (x == n) = false := by simpa using hx
      have e1 : ∀ (c : Bool), List.lookup x ((if c = true then (n, NameKind.cell) else (n, k0)) :: (r.map fun (n, k) => if (k == NameKind.free && env.scope.kind == .function && env.kindOf n == some .cell) then (n, NameKind.cell) else (n, k))) = List.lookup x (r.map fun (n, k) => if (k == NameKind.free && env.scope.kind == .function && env.kindOf n == some .cell) then (n, NameKind.cell) else (n, k)) := fun c => by
        cases c <;> simp [List.lookup_cons, hb]
      have h' := (e1 _).symm.trans h
      rcases ih h' with q | ⟨q1, q2⟩
      · exact .inl (by simpa [List.lookup_cons, hb] using q)
      · exact .inr ⟨q1, by simpa [List.lookup_cons, hb] using q2⟩
theorem mem_of_look {x : Str} {k : NameKind} : ∀ {names : List (Str × NameKind)}, names.lookup x = some k → (x, k) ∈ names
  | [], h => by simp at h
  | (n, k0) :: r, h => by
    by_cases hx : x = n
    · subst hx
      simp only [List.lookup_cons, beq_self_eq_true] at h
      cases h; exact List.mem_cons_self
    · have hb : (x == n) = false := by simpa using hx
      simp only [List.lookup_cons, hb] at h
      exact List.mem_cons_of_mem _ (mem_of_look h)
noncomputable def subSt (k : Nat) (js : List Nat) (σ : St) : St := List.replicate k none ++ js.map fun j => (σ[j]?).join
noncomputable def zqk (X : Cx) (N' : List Str) (scope : Scope) (C : Addr) (s₂ : Shared) (H₂ : Hp) (fp : List Addr) : Cx where
  prog := X.prog
  w := X.w
  K := X.K
  mg := X.mg
  base := X.base
  A := X.A
  N := N'
  s₀ := s₂
  H₀ := H₂
  env := compEnvC scope (closL X.env.cells scope.names []) C X.env
  outer := X.stack
  stack := X.stack
  ex := fp
  fn := fun _ => false
  calm := X.calm
  pn := []
  xe := fun _ _ => False
structure CompFit (X : Cx) (k : Nat) (js : List Nat) (N' : List Str) (scope : Scope) : Prop where
  kind : scope.kind = .function
  nocell : ∀ y ∈ scope.names, y.2 ≠ .cell
  loc : ∀ y ∈ scope.names, y.2 = .local → scope.names.lookup y.1 = some .local
  free : ∀ y ∈ scope.names, y.2 = .free → X.env.kindOf y.1 = some .cell ∨ X.env.kindOf y.1 = some .free
  len : N'.length = k + js.length
  at' : ∀ (i : Nat) (x : Str), N'[i]? = some x → k ≤ i → ∃ j, js[i - k]? = some j ∧ X.N[j]? = some x ∧ (X.env.kindOf x = some .cell ∨ X.env.kindOf x = some .free) ∧ scope.names.lookup x = some .free
section
variable {X : Cx} {pins : List (Addr × Obj)} {σ : St} {H : Hp} {s : Shared} {k : Nat} {js : List Nat} {N' : List Str} {scope : Scope}
theorem comp_ok {C : Addr} {fp : List Addr} (I : Inv X pins σ H s) (S : CompFit X k js N' scope) (hC : s.heap.objs.size ≤ C) (hf : ∀ b ∈ fp, FpOk X pins H b ∧ b < s.heap.objs.size) : (zqk X N' scope C s H fp).Ok where
  mod := I.ok.mod
  kind := S.kind
  glob := I.ok.glob
  blt := I.ok.blt
  above := hC
  inj := fun x y c h1 h2 => I.ok.inj x y c (zjc (fun d hd => by simp at hd) h1) (zjc (fun d hd => by simp at hd) h2)
  has := fun x hx => by
    have hx' : (relabel scope X.env).names.lookup x = some .cell ∨ (relabel scope X.env).names.lookup x = some .free := hx
    have hfree : scope.names.lookup x = some .free := by
      rcases hx' with h | h
      · rcases relabel_kind h with q | ⟨_, q⟩
        · exact absurd rfl (S.nocell _ (mem_of_look q))
        · exact q
      · rcases relabel_kind h with q | ⟨e, _⟩
        · exact q
        · cases e
    obtain ⟨c, hc⟩ := I.ok.has x (S.free _ (mem_of_look hfree) rfl)
    exact closL_has hc (mem_of_look hfree)
  cab := fun x c h _ => nomatch h
  hd := I.ok.hd
  frames := I.ok.frames
  stk := .inl rfl
  exf := fun b hb => ⟨fun e => absurd (hf b hb).2 (by have e' : b = C := e; rw [e']; exact Nat.not_lt.mpr hC), fun x c h => (hf b hb).1.2.2.2.2.1 x c (zjc (fun d hd => by simp at hd) h)⟩
  bs := I.bs
  bsz := Nat.le_trans I.ok.bsz I.sz
  noex := fun b o e hb => by
    rcases (hf b hb).1.2.2.2.1 with z | z
    · exact I.ok.noex b o e z
    · exact absurd (Nat.lt_of_lt_of_le (Heap.lt_size e) (Nat.le_trans I.ok.bsz z)) (Nat.lt_irrefl _)
  exfs := fun b hb z => by
    rcases List.mem_cons.mp (I.stkSub b z) with e | e
    · exact (hf b hb).1.2.1 e
    · exact (hf b hb).1.2.2.1 e
  funs := I.stack
  frf := I.stkFree
theorem comp_start {C : Addr} {fp : List Addr} {h₁ : Heap} {tk : Nat} {m : Str → Option Value} (I : Inv X pins σ H s) (S : CompFit X k js N' scope) (hC : s.heap.objs.size ≤ C) (hf : ∀ b ∈ fp, FpOk X pins H b ∧ b < s.heap.objs.size)
    (old : ∀ b o, s.heap.get? b = some o → h₁.get? b = some o) (hn : h₁.Ns C m) : Inv (zqk X N' scope C s H fp) [] (subSt k js σ) H { s with heap := h₁, toks := tk } := by
  refine ⟨comp_ok I S hC hf, rfl, I.bare, Un.kept old, ⟨m, hn, fun i x v h1 h2 h3 => ?_⟩, fun x c h => ?_, I.hok.fresh hC, fun x c h => I.freeC x c (zjc (fun d hd => by simp at hd) h), fun p hp => absurd (show p ∈ ([] : List (Addr × Obj)) from hp) (by simp), I.hok.kept old, ?_⟩
  · have hi : k ≤ i := by
      by_cases hi : k ≤ i
      · exact hi
      · unfold subSt at h2
        rw [List.getElem?_append_left (by simp; lia), List.getElem?_replicate] at h2
        split at h2 <;> cases h2
    obtain ⟨j, hj, hN, hk, hfree⟩ := S.at' i x h1 hi
    have hσ : σ[j]? = some (some v) := by
      unfold subSt at h2
      rw [List.getElem?_append_right (by simpa using hi), List.length_replicate, List.getElem?_map, hj] at h2
      simp only [Option.map_some] at h2
      have h2' : (σ[j]?).join = some v := Option.some.inj h2
      cases e : σ[j]? with
      | none => rw [e] at h2'; cases h2'
      | some z => rw [e] at h2'; simp only [Option.join] at h2'; rw [← h2']; rfl
    obtain ⟨m0, hn0, hl⟩ := I.loc
    have hv : Vis X.env.scope x := by
      rcases hk with h | h
      · exact .inr (.inl h)
      · exact .inr (.inr h)
    obtain ⟨u, r, l⟩ := hl j x v hN hσ hv
    refine ⟨u, r, ?_⟩
    rcases l with ⟨hk', _⟩ | ⟨_, c, hc, hcell⟩
    · rcases hk with h | h <;> (rw [hk'] at h; cases h)
    · obtain ⟨d, hd⟩ := closL_has (names := scope.names) (acc := []) hc (mem_of_look hfree)
      have hdc : d = c := Option.some.inj ((zjc (fun d hd => by simp at hd) hd).symm.trans hc)
      subst hdc
      refine .inr ⟨?_, d, hd, hcell.keeps old⟩
      have h3' : (relabel scope X.env).names.lookup x = some .local ∨ (relabel scope X.env).names.lookup x = some .cell ∨ (relabel scope X.env).names.lookup x = some .free := h3
      rcases h3' with h | h | h
      · rcases relabel_kind h with q | ⟨e, _⟩
        · rw [hfree] at q; cases q
        · cases e
      · exact .inl h
      · exact .inr h
  · obtain ⟨v, hv⟩ := I.cell x c (zjc (fun d hd => by simp at hd) h)
    exact ⟨v, hv.keeps old⟩
  · unfold subSt
    show _ = N'.length
    rw [List.length_append, List.length_replicate, List.length_map, S.len]
end
section
variable {prog : Program} {w : World} {A : Around} {R : Result → Shared → Prop} {s : Shared}
noncomputable def NoX : Value → Shared → Prop := fun _ _ => False
theorem comp_turns {elt target iter : Expr} {ifs : List Expr} {scope : Scope} {pos : Pos} {it acc : Value} {env : Env} (I : Nat → Shared → Prop)
    (turn : ∀ n s, I n s → wpAny (model prog w) A (pyNext it) (fun r s₁ => match r with
      | none => R (.ok .next) s₁
      | some v => wpAny (model prog w) A (letOwnedTupleGo target it v) (fun _ s₁' => wpAny (model prog w) A (assign target env v) (fun _ s₂ =>
          wpAny (model prog w) A (forIn ifs true fun c r => if r = true then (do let ok ← isTrue c env (eval c env); pure (ForInStep.yield ok)) else pure (ForInStep.yield r)) (fun ok s₃ =>
            if ok = true then wpAny (model prog w) A (eval elt env) (fun x s₄ => wpAny (model prog w) A (call (.builtin "list.append") [acc, x]) (fun _ s₅ => ∃ m, m < n ∧ I m s₅) NoX s₄) NoX s₃
            else ∃ m, m < n ∧ I m s₃) NoX s₂) NoX s₁') NoX s₁) NoX s)
    (n : Nat) (h : I n s) : codeAny (model prog w) A (.compLoop (.ListComp elt [⟨target, iter, ifs, 0⟩] scope pos) 0 it acc env) R s := by
  refine codeAny_loop rfl I (fun n s hI => ?_) n h
  refine wpAny_noted (m := compTurn (.ListComp elt [⟨target, iter, ifs, 0⟩] scope pos) 0 it acc env) ?_
  rw [compTurn_list]
  refine wpAny_bind (wpAny_standAt (wpAny_bind (wpAny_mono (turn n s hI) (fun r s₁ h₁ => ?_) fun _ _ h' => h'.elim)))
  cases r with
  | none => exact wpAny_pure h₁
  | some v =>
    refine wpAny_bind (wpAny_mono h₁ (fun _ s₁' h₁' => ?_) fun _ _ h' => h'.elim)
    refine wpAny_bind (wpAny_mono h₁' (fun _ s₂ h₂ => wpAny_bind (wpAny_mono h₂ (fun ok s₃ h₃ => ?_) fun _ _ h' => h'.elim)) fun _ _ h' => h'.elim)
    cases ok with
    | false => exact wpAny_pure ⟨rfl, h₃⟩
    | true =>
      refine wpAny_bind (wpAny_bind (wpAny_mono h₃ (fun x s₄ h₄ => ?_) fun _ _ h' => h'.elim))
      exact wpAny_bind (wpAny_mono h₄ (fun _ s₅ h₅ => wpAny_pure (wpAny_pure ⟨rfl, h₅⟩)) fun _ _ h' => h'.elim)
end
noncomputable def PF (X : Cx) (ifs : List Expr) (t : TT) : Prop :=
  ∀ (pins : List (Addr × Obj)) (s : Shared) (σ : St) (H : Hp) (Q : Bool → Hp → Prop), Inv X pins σ H s → t σ H Q →
    wpAny (model X.prog X.w) X.A (forIn ifs true fun c r => if r = true then (do let ok ← isTrue c X.env (eval c X.env); pure (ForInStep.yield ok)) else pure (ForInStep.yield r)) (TP X pins σ Q) X.xe s
noncomputable def tYes : TT := fun _ H Q => Q true H
theorem pf_nil {X : Cx} : PF X [] tYes := fun _ _ _ H _ I h => wpAny_tests_nil ⟨H, I, h⟩
theorem pf_one {X : Cx} {c : Expr} {t : TT} (h : PT X c t) : PF X [c] t := fun pins s σ H Q I hw => wpAny_tests_one (h pins s σ H Q I hw)
noncomputable def tComp (wi : TI) (k : Nat) (js : List Nat) (g : TG) (tc : TT) (te : TE) : TE := fun σ H Q => wi σ H fun J H1 => ∃ W : Nat → Nat → St → Hp → List V → Prop, (∃ m, W 0 m (subSt k js σ) H1 []) ∧ ∀ i m σ' H' xs, W i m σ' H' xs →
  (J.stop i H' ∧ xs.length ≤ sizeLine ∧ ∀ p, H' p = none → Q (.ref p) (upd H' p (.lst xs))) ∨
  (J.go i H' ∧ xs.length < sizeLine ∧ ∀ x H2, J.yld i H' x H2 → g x σ' H2 fun σ2 H3 => tc σ2 H3 fun b H4 => if b = true then te σ2 H4 fun v H5 => ∃ m', m' < m ∧ W (i + 1) m' σ2 H5 (xs ++ [v]) else ∃ m', m' < m ∧ W (i + 1) m' σ2 H4 xs)
section
variable {X : Cx} {k : Nat} {js : List Nat} {N' : List Str} {scope : Scope} {elt tg iter : Expr} {ifs : List Expr} {pos : Pos} {wi : TI} {g : TG} {tc : TT} {te : TE}
theorem pe_comp (S : CompFit X k js N' scope) (hc : X.calm = true) (hi : PI X tg iter wi)
    (hg : ∀ C s₂ H₂ fp, PG (zqk X N' scope C s₂ H₂ fp) tg g) (hf : ∀ C s₂ H₂ fp, PF (zqk X N' scope C s₂ H₂ fp) ifs tc) (he : ∀ C s₂ H₂ fp, PE (zqk X N' scope C s₂ H₂ fp) elt te)
    (hs : ∀ x, foldedSetIterable iter X.env x = pure x := by intro _; rfl) : PE X (.ListComp elt [⟨tg, iter, ifs, 0⟩] scope pos) (tComp wi k js g tc te) := by
  intro pins s σ H Q I h
  rw [eval_ListComp]
  refine wpAny_comprehension_free (use := none) rfl hs (closFor fun y hy hk => I.ok.has y.1 (S.free y hy hk)) S.kind S.loc ?_
  refine thn (hi pins s σ H _ I h) fun v s1 h1 => thn h1 fun itv s₂ h2 => ?_
  obtain ⟨it, fp, tn, J, H₂, rfl, I2, T, st2, f2, W, ⟨m0, w0⟩, turn⟩ := h2
  have lt2 : ∀ b ∈ fp, b < s₂.heap.objs.size := fun b hb => by obtain ⟨o, e, _⟩ := T.obj 0 _ st2 b hb; exact Heap.lt_size e
  refine wpAny_newObj_type (wpAny_newFunctionEnv S.nocell (by intro y hy; simp at hy) (fun h₁ hns₁ hsb₁ => ?_) S.kind)
  dsimp only at hns₁ hsb₁ ⊢
  generalize hH2 : s₂.heap.push { cls := .type "list", dict := none, data := .seq ([] : List Value).toArray } = G at hns₁ hsb₁ ⊢
  have hC : G.objs.size = s₂.heap.objs.size + 1 := by rw [← hH2, Heap.size_push]
  have hDC : s₂.heap.objs.size ≠ G.objs.size := by lia
  have hCle : s₂.heap.objs.size ≤ G.objs.size := by lia
  have old : ∀ b o, s₂.heap.get? b = some o → h₁.get? b = some o := fun b o e => hsb₁.extBut b o (addr_ne e hCle) (Heap.get?_push_of_some _ (hH2 ▸ Heap.get?_push_of_some _ e))
  have hacc : h₁.get? s₂.heap.objs.size = some { cls := .type "list", data := .seq ([] : List Value).toArray } := hsb₁.extBut _ _ hDC (Heap.get?_push_of_some _ (hH2 ▸ Heap.get?_push_size _ rfl))
  have hf2 : ∀ b ∈ fp, FpOk X pins H₂ b ∧ b < s₂.heap.objs.size := fun b hb => ⟨f2 b hb, lt2 b hb⟩
  have I0 : ∀ tk, Inv (zqk X N' scope G.objs.size s₂ H₂ fp) [] (subSt k js σ) H₂ { s₂ with heap := h₁, toks := tk } := fun tk => comp_start I2 S hCle hf2 old hns₁
  generalize hD : s₂.heap.objs.size = D at *
  have hDnone : ∀ {H' : Hp} {s' : Shared} {σ' : St} {pp : List (Addr × Obj)} {o : Obj}, Inv (zqk X N' scope G.objs.size s₂ H₂ fp) (pp ++ [(D, o)]) σ' H' s' → H' D = none ∧ s'.heap.get? D = some o := fun {H' s' σ' pp o} J => by
    have q := J.pin (D, o) (List.mem_append_right _ (List.mem_append_right _ (List.mem_singleton.mpr rfl)))
    exact ⟨q.2.1, q.1⟩
  have hDfs : D ∉ frs X.stack := fun z => by
    obtain ⟨_, o, ho, _⟩ := I2.stack.mem z
    exact addr_ne ho (Nat.le_of_eq hD) rfl
  have hDcell : ∀ x c, (zqk X N' scope G.objs.size s₂ H₂ fp).env.cells.lookup x = some c → c ≠ D := fun x c e z => by
    obtain ⟨v, q⟩ := I2.cell x c (zjc (fun d hd => by simp at hd) e)
    exact addr_lt q.lt (Nat.le_of_eq hD) z
  have stat : ∀ {H' : Hp} {pp : List (Addr × Obj)}, (∀ b ∈ fp, H' b = none) → (∀ p ∈ pp, p.1 = D) → ∀ b ∈ fp, FpOk (zqk X N' scope G.objs.size s₂ H₂ fp) pp H' b := fun {H' pp} hn hp b hb => by
    refine ⟨hn b hb, fun z => ?_, fun z => ?_, .inl hb, fun x c e => (hf2 b hb).1.2.2.2.2.1 x c (zjc (fun d hd => by simp at hd) e), fun p hp' z => ?_⟩
    · exact addr_lt (lt2 b hb) hCle z
    · rcases List.mem_cons.mp (I2.stkSub b z) with e | e
      · exact (hf2 b hb).1.2.1 e
      · exact (hf2 b hb).1.2.2.1 e
    · have e1 : p.1 = D := hp p (by simpa [zqk] using hp')
      exact addr_lt (lt2 b hb) (Nat.le_refl _) (z.symm.trans e1)
  have pinD : ∀ {σ' : St} {H' : Hp} {s' : Shared} {ys : List Value} {c : Nat}, Inv (zqk X N' scope G.objs.size s₂ H₂ fp) [] σ' H' s' → s'.heap.get? D = some { cls := .type "list", data := .seq ys.toArray c } → H' D = none →
      Inv (zqk X N' scope G.objs.size s₂ H₂ fp) [(D, { cls := .type "list", data := .seq ys.toArray c })] σ' H' s' := fun {σ' H' s' ys c} J e n => J.pins_of fun p hp => by
    have e1 := List.mem_singleton.mp hp
    subst e1
    exact ⟨e, n, hDC, hDfs, fun v z => by cases z⟩
  have loop : ∀ s₃ : Shared, (∃ tk, s₃ = { s₂ with heap := h₁, toks := tk }) → codeAny (model X.prog X.w) X.A (.compLoop (.ListComp elt [⟨tg, iter, ifs, 0⟩] scope pos) 0 (.ref it) (.ref D) (zqk X N' scope G.objs.size s₂ H₂ fp).env)
      (compPost (model X.prog X.w) X.A X.xe none (EP X pins σ Q) (.ref D) G.objs.size) s₃ := by
    rintro s₃ ⟨tk, rfl⟩
    refine comp_turns (fun n s' => ∃ i σ' H' xs ys c, Inv (zqk X N' scope G.objs.size s₂ H₂ fp) [] σ' H' s' ∧ tn i s'.heap ∧ (∀ b ∈ fp, H' b = none) ∧ H' D = none ∧ s'.heap.get? D = some { cls := .type "list", data := .seq ys.toArray c } ∧ Vals xs ys ∧ W i n σ' H' xs)
      ?_ m0 ⟨0, _, H₂, [], [], 0, I0 tk, T.keep _ _ _ st2 fun b hb o e => old b o e, fun b hb => (f2 b hb).1, I2.hok.fresh (by lia), hacc, .nil, w0⟩
    rintro n s' ⟨i, σ', H', xs, ys, c, J', st', fr', nD, eD, rv, w'⟩
    have J1 := pinD J' eD nD
    rcases turn i n σ' H' xs w' with ⟨stop, hz, fin⟩ | ⟨go, hz, step⟩
    · refine thn (T.done (zqk X N' scope G.objs.size s₂ H₂ fp) rfl rfl rfl hc i _ s' σ' H' _ J1 (stat fr' fun p hp => by rw [List.mem_singleton.mp hp]) st' stop) fun r s4 ⟨hr, J4⟩ => ?_
      subst hr
      obtain ⟨nD4, eD4⟩ := hDnone (pp := []) J4
      obtain ⟨mC, hnC, _⟩ := J4.loc
      refine ⟨mC, hnC, fun h' hs' => ?_⟩
      have keep4 : ∀ b o, b ≠ G.objs.size → s4.heap.get? b = some o → h'.get? b = some o := fun b o hb e => hs'.extBut b o hb e
      have hC4 : H' G.objs.size = none := J4.free
      have hun : Un (frs X.stack) fp H₂ (upd H' D (.lst xs)) s₂.heap h' := by
        have u := J4.base
        have neD : ∀ b o, s₂.heap.get? b = some o → b ≠ D := fun b o e => addr_ne e (Nat.le_of_eq hD)
        have neC : ∀ b o, s₂.heap.get? b = some o → b ≠ G.objs.size := fun b o e => addr_ne e (by rw [hD]; exact hCle)
        have neD' : ∀ b o, H₂ b = some o → b ≠ D := fun b o e => addr_lt (I2.hok.lt e) (Nat.le_of_eq hD)
        refine ⟨fun b o e n hb hx => keep4 b o (neC b o e) (u.keep b o e n hb hx), fun b o e n hb hx => ?_, fun b o e n hx => by rw [zqq (neD b o e)]; exact u.free b o e n hx, fun b o e hx => ?_,
          fun b xs e => by rw [zqq (neD' b _ e)]; exact u.tups b xs e, fun b o z e => by rw [zqq (neD' b _ e)]; exact u.frzs b o z e, fun b ps e => by rw [zqq (neD' b _ e)]; exact u.tbls b ps e⟩
        · obtain ⟨sl, q⟩ := u.slot b o e n hb hx
          exact ⟨sl, keep4 b _ (neC b o e) q⟩
        · obtain ⟨o', q⟩ := u.there b o e hx
          exact ⟨o', keep4 b _ (neC b o e) q⟩
      have hok4 : HOk X.prog X.w (upd H' D (.lst xs)) h' := by
        intro b u e
        by_cases hb : b = D
        · subst hb
          rw [zjj] at e
          cases e
          exact ⟨hz, ys, c, rv, keep4 _ _ hDC eD4⟩
        · rw [zqq hb] at e
          have hnD : ∀ a o, H' a = some o → a ≠ D := fun a o e z => by rw [z, nD4] at e; cases e
          refine (J4.hok b u e).stay (fun a v ha q => keep4 a v ?_ q) (fun a q => by rw [zqq (hnD a _ q)]; exact q) fun a zs q => by rw [zqq (hnD a _ q)]; exact q
          rintro rfl
          rcases ha with z | z
          · rw [← z, hC4] at e; cases e
          · rw [hC4] at z; cases z
      refine ⟨.ref D, upd H' D (.lst xs), I2.call' (s' := { s4 with heap := h' }) J4.os hun hok4 J4.bare fun b hb => ?_, rfl, fin D nD4⟩
      exact ⟨(f2 b hb).2.2.2.1, (f2 b hb).2.1, (f2 b hb).2.2.2.2.1, (f2 b hb).2.2.2.2.2⟩
    · refine thn (T.item (zqk X N' scope G.objs.size s₂ H₂ fp) rfl rfl rfl hc i _ s' σ' H' NoX J1 (stat fr' fun p hp => by rw [List.mem_singleton.mp hp]) st' go) fun r s4 ⟨u, hr, h4⟩ => ?_
      subst hr
      refine thn h4 fun _ s5 ⟨x, H5, I5, r5, y5, st5, fr5⟩ => ?_
      have I5' := I5.pinned (stat fr5 fun p hp => by rw [List.mem_singleton.mp hp]) (T.obj _ _ st5)
      refine thn (hg _ _ _ _ _ s5 σ' H5 x u _ I5' r5 (step x H5 y5)) fun _ s6 ⟨σ6, H6, I6, q6⟩ => ?_
      refine thn (hf _ _ _ _ _ s6 σ6 H6 _ I6 q6) fun ok s7 ⟨H7, I7, q7⟩ => ?_
      have back : ∀ {σ8 : St} {H8 : Hp} {s8 : Shared}, Inv (zqk X N' scope G.objs.size s₂ H₂ fp) ([(D, { cls := .type "list", data := .seq ys.toArray c })] ++ pinsAt fp s5.heap) σ8 H8 s8 →
          Inv (zqk X N' scope G.objs.size s₂ H₂ fp) [] σ8 H8 s8 ∧ tn (i + 1) s8.heap ∧ (∀ b ∈ fp, H8 b = none) ∧ H8 D = none ∧ s8.heap.get? D = some { cls := .type "list", data := .seq ys.toArray c } := fun {σ8 H8 s8} J => by
        have pd := J.pin (D, { cls := .type "list", data := .seq ys.toArray c }) (List.mem_append_right _ (List.mem_append_left _ (List.mem_singleton.mpr rfl)))
        have pf : ∀ b ∈ fp, ∀ o, s5.heap.get? b = some o → s8.heap.get? b = some o ∧ H8 b = none := fun b hb o e => by
          have q := J.pin (b, o) (List.mem_append_right _ (List.mem_append_right _ (mem_pinsAt hb e)))
          exact ⟨q.1, q.2.1⟩
        refine ⟨J.pins_of fun p hp => absurd hp (by simp), T.keep _ _ _ st5 fun b hb o e => (pf b hb o e).1, fun b hb => ?_, pd.2.1, pd.1⟩
        obtain ⟨o, e, _⟩ := T.obj _ _ st5 b hb
        exact (pf b hb o e).2
      cases ok with
      | false =>
        simp only [Bool.false_eq_true, if_false] at q7 ⊢
        obtain ⟨m', hm, w7⟩ := q7
        obtain ⟨b1, b2, b3, b4, b5⟩ := back I7
        exact ⟨m', hm, i + 1, σ6, H7, xs, ys, c, b1, b2, b3, b4, b5, rv, w7⟩
      | true =>
        simp only [if_true] at q7 ⊢
        refine thn (he _ _ _ _ _ s7 σ6 H7 _ I7 q7) fun u8 s8 ⟨v8, H8, I8, r8, q8⟩ => ?_
        obtain ⟨m', hm, w8⟩ := q8
        obtain ⟨b1, b2, b3, b4, b5⟩ := back I8
        refine append_at b5 (fun h9 hs9 e9 => ?_) (by rw [List.size_toArray, ← rv.length]; exact Nat.le_of_lt hz)
        have I9 : Inv (zqk X N' scope G.objs.size s₂ H₂ fp) [] σ6 H8 { s8 with heap := h9 } := b1.turned (t' := s8.toks) (it := D) (fun b o hb e => (hs9.2 b hb).trans e) b4 hDC (.inr (by show s₂.heap.objs.size ≤ D; lia)) hDcell fun p hp => absurd (show p ∈ ([] : List (Addr × Obj)) from hp) (by simp)
        refine ⟨m', hm, i + 1, σ6, H8, xs ++ [v8], ys ++ [u8], c + 1, I9, T.keep _ _ _ b2 fun b hb o e => (hs9.2 b ?_).trans e, b3, b4, ?_, Vals.append rv (.cons r8 .nil), w8⟩
        · exact addr_lt (lt2 b hb) (Nat.le_refl _)
        · rw [e9, List.push_toArray]
  exact codeAny_compStart_list (loop _ ⟨_, rfl⟩) (T.self _ 0 _ _ _ (T.keep _ _ _ st2 fun b hb o e => old b o e) (loop _ ⟨_, rfl⟩))
end
end L2
set_option Elab.async false
set_option linter.all false
set_option maxRecDepth 100000
set_option maxHeartbeats 4000000
namespace L3
open PySem PySem.Spec PyProof.Rows
noncomputable def cI (st : Bool) (i j : Int) : Bool := if st = true then decide (i < j) else decide (i ≤ j)
noncomputable def cS (st : Bool) (x y : Str) : Bool := if st = true then decide (x.cps.toList < y.cps.toList) else !decide (y.cps.toList < x.cps.toList)
mutual
noncomputable def cD (st : Bool) : PyData → PyData → Option Bool
  | .int i, .int j => some (cI st i j)
  | .str x, .str y => some (cS st x y)
  | .tuple xs, .tuple ys => cL st xs ys
  | _, _ => none
noncomputable def cL (st : Bool) : List PyData → List PyData → Option Bool
  | [], [] => some (!st)
  | [], _ :: _ => some true
  | _ :: _, [] => some false
  | x :: xs, y :: ys => if PyData.eqv x y = true then cL st xs ys else cD st x y
end
noncomputable def cOp (st : Bool) : CmpOp := if st = true then .Lt else .LtE
noncomputable def RcL (A : Around) (s : Shared) (st : Bool) (a b : Value) (k : Bool) : Prop :=
  ∀ (prog : Program) (w : World) (E : Value → Shared → Prop) (Q : Value → Shared → Prop), Q (.bool k) s → wpAny (model prog w) A (richCompare (cOp st) a b) Q E s
theorem cL_sizes {st : Bool} {k : Bool} : ∀ {xs ys : List PyData} {vs ws : List Value} {as bs : List Addr} {h : Heap}, ReadsAll h vs xs as → ReadsAll h ws ys bs → vs.zip ws = [] → cL st xs ys = some k →
    k = (if st = true then decide (vs.length < ws.length) else decide (vs.length ≤ ws.length))
  | _, _, _, _, _, _, _, .nil, .nil, _, e => by
    unfold cL at e; cases e; cases st <;> rfl
  | _, _, _, _, _, _, _, .nil, .cons _ _, _, e => by
    unfold cL at e; cases e; cases st <;> simp
  | _, _, _, _, _, _, _, .cons _ _, .nil, _, e => by
    unfold cL at e; cases e; cases st <;> simp
  | _, _, _, _, _, _, _, .cons _ _, .cons _ _, z, _ => by cases z
section
open PySem.SeqAt
open PySem.AutoSeq1 (wpAny_loadPart')
open PySem.MeetsSeq PySem.MeetsSeq2 PySem.MeetsSeq3
theorem tuple_lt_data (l b : Addr) (items items2 : Array Value) (n n2 : Nat) (dd dd2 : Option Addr) (sl sl2 : Array (Option Value)) (xs ys : List PyData) (k : Bool) (hk : cL true xs ys = some k)
    (ih : ∀ (A : Around) (s : Shared) (x y : PyData) (a c : Value) (as bs : List Addr) (j : Bool), x ∈ xs → Reads s.heap a x as → Reads s.heap c y bs → x.canLay0 = true → y.canLay0 = true → A.units + x.depth < cLine → cD true x y = some j → RcL A s true a c j) :
    Meets (Builtin.«tuple.__lt__» ⟨[.ref l, .ref b], []⟩)
      (fun A R s => s.heap.get? l = some { cls := .type "tuple", dict := dd, data := .seq items n, slots := sl } ∧ s.heap.get? b = some { cls := .type "tuple", dict := dd2, data := .seq items2 n2, slots := sl2 } ∧
        (∃ as, ReadsAll s.heap items.toList xs as) ∧ (∃ as, ReadsAll s.heap items2.toList ys as) ∧ PyData.canLayAll0 xs = true ∧ PyData.canLayAll0 ys = true ∧ A.units + 1 + PyData.depthAll xs < cLine ∧ R (.ok (.ret (.bool k))) s) :=
  .of_wp fun prog w A R s h => by
    obtain ⟨hp, g, d, tk, os⟩ := s; obtain ⟨hl, hb, ⟨as, hi⟩, ⟨bs, hj⟩, c1, c2, hu, h⟩ := h
    have f2 := AutoSeq1.sub_tuple_tuple
    wp_walk using wpAny_loadPart' hl, wpAny_loadPart' hb, wpAny_forIn_list _ (fun rest b s' => b.1 = none ∧ s' = ⟨hp, g, d, tk, os⟩ ∧ ∃ (vs ws : List Value) (xs' ys' : List PyData) (as' bs' : List Addr), rest = vs.zip ws ∧
      ReadsAll hp vs xs' as' ∧ ReadsAll hp ws ys' bs' ∧ vs.length + items2.size = ws.length + items.size ∧ (∀ x ∈ xs', x ∈ xs) ∧ PyData.canLayAll0 xs' = true ∧ PyData.canLayAll0 ys' = true ∧ PyData.depthAll xs' ≤ PyData.depthAll xs ∧ cL true xs' ys' = some k) _
    case turn =>
      rintro ⟨y, x⟩ rest b s' ⟨hb', rfl, vs, ws, xs', ys', as', bs', hz, hvi, hwi, hlen, hsub, l1, l2, hdp, hc⟩
      cases hvi with
      | nil => rw [List.zip_nil_left] at hz; cases hz
      | @cons v1 vs1 x1 xs1 a1 as1 rv hvi' =>
        cases hwi with
        | nil => rw [List.zip_nil_right] at hz; cases hz
        | @cons w1 ws1 y1 ys1 b1 bs1 rw1 hwi' =>
          rw [List.zip_cons_cons] at hz
          injection hz with hyx hrest
          injection hyx with hy hx
          subst hy hx
          unfold PyData.canLayAll0 at l1 l2
          rw [Bool.and_eq_true] at l1 l2
          unfold cL at hc
          have hdc : PyData.depthAll (x1 :: xs1) = max x1.depth (PyData.depthAll xs1) := by rw [PyData.depthAll]
          rw [hdc] at hdp
          simp only [List.length_cons] at hlen
          have he := eqAt_reads x1 y1 A.in1 ⟨hp, g, d, tk, os⟩ _ _ _ _ rv rw1 l1.1 l2.1 (by show A.units + 1 + _ < cLine; lia)
          refine wpAny_bind (he prog w _ _ ?_)
          cases e : PyData.eqv x1 y1 with
          | true =>
            rw [e, if_pos rfl] at hc
            wp_walk
            exact ⟨rfl, rfl, _, _, _, _, _, _, hrest, hvi', hwi', by lia, fun z hz => hsub z (List.mem_cons_of_mem _ hz), l1.2, l2.2, by lia, hc⟩
          | false =>
            rw [e, if_neg Bool.false_ne_true] at hc
            have hri : ∀ (E : Value → Shared → Prop) (Q : Value → Shared → Prop), Q (.bool k) ⟨hp, g, d, tk, os⟩ → wpAny (model prog w) A.in1 (richCompare .Lt _ _) Q E ⟨hp, g, d, tk, os⟩ := ih A.in1 ⟨hp, g, d, tk, os⟩ x1 y1 _ _ _ _ k (hsub x1 List.mem_cons_self) rv rw1 l1.1 l2.1 (by show A.units + 1 + _ < cLine; lia) hc prog w
            wp_walk using hri
            exact ⟨_, rfl, by simpa using h⟩
    case fin =>
      rintro ⟨b1, b2⟩ s' ⟨hb', rfl, vs, ws, xs', ys', as', bs', hz, hvi, hwi, hlen, hsub, l1, l2, hdp, hc⟩
      simp only at hb'
      subst hb'
      have hv := cL_sizes hvi hwi hz.symm hc
      simp only [if_true] at hv
      have hv2 : decide (vs.length < ws.length) = decide (items.size < items2.size) := by
        by_cases q : vs.length < ws.length
        · rw [decide_eq_true q, decide_eq_true (by lia)]
        · rw [decide_eq_false q, decide_eq_false (by lia)]
      rw [hv2] at hv
      rw [hv] at h
      wp_walk
      exact ⟨_, rfl, by simpa [Builtin.Tuple.tupleCompareSizes] using h⟩
    case h =>
      exact ⟨rfl, rfl, items.toList, items2.toList, xs, ys, as, bs, rfl, hi, hj, by simp; lia, fun _ hx => hx, c1, c2, Nat.le_refl _, hk⟩
theorem tuple_le_data (l b : Addr) (items items2 : Array Value) (n n2 : Nat) (dd dd2 : Option Addr) (sl sl2 : Array (Option Value)) (xs ys : List PyData) (k : Bool) (hk : cL false xs ys = some k)
    (ih : ∀ (A : Around) (s : Shared) (x y : PyData) (a c : Value) (as bs : List Addr) (j : Bool), x ∈ xs → Reads s.heap a x as → Reads s.heap c y bs → x.canLay0 = true → y.canLay0 = true → A.units + x.depth < cLine → cD false x y = some j → RcL A s false a c j) :
    Meets (Builtin.«tuple.__le__» ⟨[.ref l, .ref b], []⟩)
      (fun A R s => s.heap.get? l = some { cls := .type "tuple", dict := dd, data := .seq items n, slots := sl } ∧ s.heap.get? b = some { cls := .type "tuple", dict := dd2, data := .seq items2 n2, slots := sl2 } ∧
        (∃ as, ReadsAll s.heap items.toList xs as) ∧ (∃ as, ReadsAll s.heap items2.toList ys as) ∧ PyData.canLayAll0 xs = true ∧ PyData.canLayAll0 ys = true ∧ A.units + 1 + PyData.depthAll xs < cLine ∧ R (.ok (.ret (.bool k))) s) :=
  .of_wp fun prog w A R s h => by
    obtain ⟨hp, g, d, tk, os⟩ := s; obtain ⟨hl, hb, ⟨as, hi⟩, ⟨bs, hj⟩, c1, c2, hu, h⟩ := h
    have f2 := AutoSeq1.sub_tuple_tuple
    wp_walk using wpAny_loadPart' hl, wpAny_loadPart' hb, wpAny_forIn_list _ (fun rest b s' => b.1 = none ∧ s' = ⟨hp, g, d, tk, os⟩ ∧ ∃ (vs ws : List Value) (xs' ys' : List PyData) (as' bs' : List Addr), rest = vs.zip ws ∧
      ReadsAll hp vs xs' as' ∧ ReadsAll hp ws ys' bs' ∧ vs.length + items2.size = ws.length + items.size ∧ (∀ x ∈ xs', x ∈ xs) ∧ PyData.canLayAll0 xs' = true ∧ PyData.canLayAll0 ys' = true ∧ PyData.depthAll xs' ≤ PyData.depthAll xs ∧ cL false xs' ys' = some k) _
    case turn =>
      rintro ⟨y, x⟩ rest b s' ⟨hb', rfl, vs, ws, xs', ys', as', bs', hz, hvi, hwi, hlen, hsub, l1, l2, hdp, hc⟩
      cases hvi with
      | nil => rw [List.zip_nil_left] at hz; cases hz
      | @cons v1 vs1 x1 xs1 a1 as1 rv hvi' =>
        cases hwi with
        | nil => rw [List.zip_nil_right] at hz; cases hz
        | @cons w1 ws1 y1 ys1 b1 bs1 rw1 hwi' =>
          rw [List.zip_cons_cons] at hz
          injection hz with hyx hrest
          injection hyx with hy hx
          subst hy hx
          unfold PyData.canLayAll0 at l1 l2
          rw [Bool.and_eq_true] at l1 l2
          unfold cL at hc
          have hdc : PyData.depthAll (x1 :: xs1) = max x1.depth (PyData.depthAll xs1) := by rw [PyData.depthAll]
          rw [hdc] at hdp
          simp only [List.length_cons] at hlen
          have he := eqAt_reads x1 y1 A.in1 ⟨hp, g, d, tk, os⟩ _ _ _ _ rv rw1 l1.1 l2.1 (by show A.units + 1 + _ < cLine; lia)
          refine wpAny_bind (he prog w _ _ ?_)
          cases e : PyData.eqv x1 y1 with
          | true =>
            rw [e, if_pos rfl] at hc
            wp_walk
            exact ⟨rfl, rfl, _, _, _, _, _, _, hrest, hvi', hwi', by lia, fun z hz => hsub z (List.mem_cons_of_mem _ hz), l1.2, l2.2, by lia, hc⟩
          | false =>
            rw [e, if_neg Bool.false_ne_true] at hc
            have hri : ∀ (E : Value → Shared → Prop) (Q : Value → Shared → Prop), Q (.bool k) ⟨hp, g, d, tk, os⟩ → wpAny (model prog w) A.in1 (richCompare .LtE _ _) Q E ⟨hp, g, d, tk, os⟩ := ih A.in1 ⟨hp, g, d, tk, os⟩ x1 y1 _ _ _ _ k (hsub x1 List.mem_cons_self) rv rw1 l1.1 l2.1 (by show A.units + 1 + _ < cLine; lia) hc prog w
            wp_walk using hri
            exact ⟨_, rfl, by simpa using h⟩
    case fin =>
      rintro ⟨b1, b2⟩ s' ⟨hb', rfl, vs, ws, xs', ys', as', bs', hz, hvi, hwi, hlen, hsub, l1, l2, hdp, hc⟩
      simp only at hb'
      subst hb'
      have hv := cL_sizes hvi hwi hz.symm hc
      simp only [Bool.false_eq_true, if_false] at hv
      have hv2 : decide (vs.length ≤ ws.length) = decide (items.size ≤ items2.size) := by
        by_cases q : vs.length ≤ ws.length
        · rw [decide_eq_true q, decide_eq_true (by lia)]
        · rw [decide_eq_false q, decide_eq_false (by lia)]
      rw [hv2] at hv
      rw [hv] at h
      wp_walk
      exact ⟨_, rfl, by simpa [Builtin.Tuple.tupleCompareSizes] using h⟩
    case h =>
      exact ⟨rfl, rfl, items.toList, items2.toList, xs, ys, as, bs, rfl, hi, hj, by simp; lia, fun _ hx => hx, c1, c2, Nat.le_refl _, hk⟩
end
theorem rcL_reads : ∀ (n : Nat) (st : Bool) (da db : PyData) (A : Around) (s : Shared) (a b : Value) (as bs : List Addr) (k : Bool), sizeOf da < n → Reads s.heap a da as → Reads s.heap b db bs → da.canLay0 = true → db.canLay0 = true →
    A.units + da.depth < cLine → cD st da db = some k → RcL A s st a b k
  | 0, _, _, _, _, _, _, _, _, _, _, h, _, _, _, _, _, _ => absurd h (Nat.not_lt_zero _)
  | n + 1, st, da, db, A, s, a, b, as, bs, k, hn, ra, rb, ha, hb, hu, hk => by
    intro prog w E Q hQ
    cases ra with
    | none => cases db <;> simp [cD] at hk
    | bool x => cases db <;> simp [cD] at hk
    | list _ _ _ _ => cases db <;> simp [cD] at hk
    | dict _ _ _ _ _ => cases db <;> simp [cD] at hk
    | int i t =>
      cases rb with
      | int j u =>
        simp only [cD] at hk
        cases hk
        cases st with
        | true => exact (PyProof.Rows.lt_int hQ : wpAny (model prog w) A (compareOp .Lt (.int i t) (.int j u)) Q E s)
        | false => exact (PyProof.Rows.le_int hQ : wpAny (model prog w) A (compareOp .LtE (.int i t) (.int j u)) Q E s)
      | _ => simp [cD] at hk
    | str x t =>
      cases rb with
      | str y u =>
        simp only [cD] at hk
        cases hk
        cases st with
        | true => exact (PySem.P.lt_str hQ : wpAny (model prog w) A (compareOp .Lt (.str x t) (.str y u)) Q E s)
        | false => exact (PySem.P.le_str (by simpa [cS] using hQ) : wpAny (model prog w) A (compareOp .LtE (.str x t) (.str y u)) Q E s)
      | _ => simp [cD] at hk
    | @tuple a o vs n1 xs as e1 c1 d1 l1 =>
      cases rb with
      | @tuple b o2 ws n2 ys bs e2 c2 d2 l2 =>
        simp only [cD] at hk
        unfold PyData.canLay0 at ha hb
        unfold PyData.depth at hu
        obtain ⟨cls, dd, data, sl⟩ := o
        obtain ⟨cls2, dd2, data2, sl2⟩ := o2
        simp only at c1 d1 c2 d2
        subst c1 d1 c2 d2
        have ih : ∀ (A : Around) (s : Shared) (x y : PyData) (a c : Value) (as bs : List Addr) (j : Bool), x ∈ xs → Reads s.heap a x as → Reads s.heap c y bs → x.canLay0 = true → y.canLay0 = true → A.units + x.depth < cLine → cD st x y = some j → RcL A s st a c j :=
          fun A s x y a c as bs j hx r1 r2 k1 k2 hu' hj => rcL_reads n st x y A s a c as bs j (by
            have := List.sizeOf_lt_of_mem hx
            simp only [PyData.tuple.sizeOf_spec] at hn
            lia) r1 r2 k1 k2 hu' hj
        cases st with
        | true =>
          exact richCompare_meets_room (op := .Lt) ⟨_, e1, rfl⟩ ⟨_, e2, rfl⟩ PySem.F.slot_tuple_lt PySem.F.entry_tuple_lt (PySem.F.args_tuple_lt_2 _ _) (tuple_lt_data a b vs ws n1 n2 dd dd2 sl sl2 xs ys k hk ih)
            ⟨e1, e2, ⟨_, l1⟩, ⟨_, l2⟩, ha, hb, by lia, show Value.bool k ≠ Value.notImplemented ∧ Q (.bool k) s from ⟨(fun x => nomatch x), hQ⟩⟩ (by lia)
        | false =>
          exact richCompare_meets_room (op := .LtE) ⟨_, e1, rfl⟩ ⟨_, e2, rfl⟩ PySem.F.slot_tuple_le PySem.F.entry_tuple_le (PySem.F.args_tuple_le_2 _ _) (tuple_le_data a b vs ws n1 n2 dd dd2 sl sl2 xs ys k hk ih)
            ⟨e1, e2, ⟨_, l1⟩, ⟨_, l2⟩, ha, hb, by lia, show Value.bool k ≠ Value.notImplemented ∧ Q (.bool k) s from ⟨(fun x => nomatch x), hQ⟩⟩ (by lia)
      | _ => simp [cD] at hk
end L3
set_option Elab.async false
set_option linter.all false
set_option maxRecDepth 100000
set_option maxHeartbeats 4000000
set_option autoImplicit false
namespace L3
open PySem PySem.Spec L2
open PyProof.Rows hiding St
noncomputable abbrev D := PyData
mutual
inductive Rp (Z : List Addr) (H : Hp) : D → V → Prop
  | none : Rp Z H .none .non
  | bool (b : Bool) : Rp Z H (.bool b) (.bl b)
  | int (i : Int) : Rp Z H (.int i) (.int i)
  | str (x : Str) : PyData.strOk x = true → Rp Z H (.str x) (.str x)
  | tup {a : Addr} {xs : List D} {vs : List V} : a ∉ Z → H a = some (.tup vs) → RpL Z H xs vs → Rp Z H (.tuple xs) (.ref a)
  | lst {a : Addr} {xs : List D} {vs : List V} : a ∉ Z → H a = some (.lst vs) → RpL Z H xs vs → Rp Z H (.list xs) (.ref a)
inductive RpL (Z : List Addr) (H : Hp) : List D → List V → Prop
  | nil : RpL Z H [] []
  | cons {d : D} {v : V} {ds : List D} {vs : List V} : Rp Z H d v → RpL Z H ds vs → RpL Z H (d :: ds) (v :: vs)
end
structure Kp (Z : List Addr) (H : Hp) (Z' : List Addr) (H' : Hp) : Prop where
  keep : ∀ a o, a ∉ Z → H a = some o → H' a = some o
  new : ∀ a, a ∈ Z' → a ∈ Z ∨ H a = none
theorem Kp.same {Z : List Addr} {H H' : Hp} (h : Same H H') : Kp Z H Z H' := ⟨fun a o _ e => h a o e, fun _ h => .inl h⟩
theorem Kp.refl {Z : List Addr} {H : Hp} : Kp Z H Z H := .same (Same.refl H)
theorem Kp.at {Z Z' : List Addr} {H H' : Hp} {a : Addr} {u : HO} (k : Kp Z H Z' H') (hz : a ∉ Z) (e : H a = some u) : a ∉ Z' ∧ H' a = some u :=
  ⟨fun h => (k.new a h).elim hz fun z => (by rw [e] at z; cases z), k.keep a u hz e⟩
theorem Same.rd {H H' : Hp} {a : Addr} {u : HO} (h : Same H H') (r : Rd H a u) : Rd H' a u := by
  rcases r with e | ⟨o, e⟩
  · exact .inl (h _ _ e)
  · exact .inr ⟨o, h _ _ e⟩
mutual
theorem Rp.kp {Z Z' : List Addr} {H H' : Hp} (k : Kp Z H Z' H') : ∀ {d : D} {v : V}, Rp Z H d v → Rp Z' H' d v
  | _, _, .none => .none
  | _, _, .bool b => .bool b
  | _, _, .int i => .int i
  | _, _, .str x h => .str x h
  | _, _, .tup hz r l => .tup (k.at hz r).1 (k.at hz r).2 (RpL.kp k l)
  | _, _, .lst hz r l => .lst (k.at hz r).1 (k.at hz r).2 (RpL.kp k l)
theorem RpL.kp {Z Z' : List Addr} {H H' : Hp} (k : Kp Z H Z' H') : ∀ {ds : List D} {vs : List V}, RpL Z H ds vs → RpL Z' H' ds vs
  | _, _, .nil => .nil
  | _, _, .cons r l => .cons (Rp.kp k r) (RpL.kp k l)
end
theorem Kp.trans {Z Z1 Z2 : List Addr} {H H1 H2 : Hp} (a : Kp Z H Z1 H1) (b : Kp Z1 H1 Z2 H2) : Kp Z H Z2 H2 := by
  refine ⟨fun c o hc e => ?_, fun c hc => ?_⟩
  · exact b.keep c o (fun h => (a.new c h).elim hc fun z => by rw [e] at z; cases z) (a.keep c o hc e)
  · rcases b.new c hc with z | z
    · exact a.new c z
    · by_cases hz : c ∈ Z
      · exact .inl hz
      · refine .inr ?_
        cases q : H c with
        | none => rfl
        | some o => rw [a.keep c o hz q] at z; cases z
theorem Kp.sub {Z Z' : List Addr} {H : Hp} (h : ∀ a, a ∈ Z' → a ∈ Z) : Kp Z H Z' H := ⟨fun _ _ _ e => e, fun a ha => .inl (h a ha)⟩
theorem RpL.length {Z : List Addr} {H : Hp} : ∀ {ds : List D} {vs : List V}, RpL Z H ds vs → ds.length = vs.length
  | _, _, .nil => rfl
  | _, _, .cons _ l => by simp [RpL.length l]
theorem RpL.get {Z : List Addr} {H : Hp} : ∀ {ds : List D} {vs : List V} {i : Nat} {d : D}, RpL Z H ds vs → ds[i]? = some d → ∃ v, vs[i]? = some v ∧ Rp Z H d v
  | _, _, _, _, .nil, h => by simp at h
  | _, _, 0, _, .cons r _, h => by simp at h; subst h; exact ⟨_, rfl, r⟩
  | _, _, i + 1, d, .cons _ l, h => by
    obtain ⟨v, e, r⟩ := RpL.get (i := i) (d := d) l (by simpa using h)
    exact ⟨v, by simpa using e, r⟩
theorem RpL.append {Z : List Addr} {H : Hp} : ∀ {ds es : List D} {vs us : List V}, RpL Z H ds vs → RpL Z H es us → RpL Z H (ds ++ es) (vs ++ us)
  | _, _, _, _, .nil, s => s
  | _, _, _, _, .cons r l, s => .cons r (RpL.append l s)
theorem RpL.take {Z : List Addr} {H : Hp} : ∀ {ds : List D} {vs : List V} (n : Nat), RpL Z H ds vs → RpL Z H (ds.take n) (vs.take n)
  | _, _, 0, _ => .nil
  | _, _, _ + 1, .nil => .nil
  | _, _, n + 1, .cons r l => .cons r (RpL.take n l)
theorem RpL.drop {Z : List Addr} {H : Hp} : ∀ {ds : List D} {vs : List V} (n : Nat), RpL Z H ds vs → RpL Z H (ds.drop n) (vs.drop n)
  | _, _, 0, l => l
  | _, _, _ + 1, .nil => .nil
  | _, _, n + 1, .cons _ l => RpL.drop n l
theorem RpL.rep {Z : List Addr} {H : Hp} {ds : List D} {vs : List V} (h : RpL Z H ds vs) : ∀ k : Nat, RpL Z H (List.replicate k ds).flatten (List.replicate k vs).flatten
  | 0 => .nil
  | k + 1 => by
    rw [List.replicate_succ, List.replicate_succ, List.flatten_cons, List.flatten_cons]
    exact h.append (RpL.rep h k)
mutual
theorem Rp.reads {X : Cx} {pins : List (Addr × Obj)} {σ : St} {H : Hp} {s : Shared} (I : Inv X pins σ H s) {Z : List Addr} : ∀ {d : D} {v : V} {u : Value}, Rp Z H d v → RelV v u → ∃ as, Reads s.heap u d as
  | _, _, _, .none, r => by cases r; exact ⟨_, .none⟩
  | _, _, _, .bool b, r => by cases r; exact ⟨_, .bool b⟩
  | _, _, _, .int i, r => by obtain ⟨t, rfl⟩ := r; exact ⟨_, .int i t⟩
  | _, _, _, .str x _, r => by obtain ⟨t, rfl⟩ := r; exact ⟨_, .str x t⟩
  | _, _, _, .tup hz q l, r => by
    cases r
    obtain ⟨its, rv, ⟨o, e, c, n, dd⟩, _⟩ := I.tuple (SqT.of q)
    obtain ⟨as, ra⟩ := RpL.reads I l rv
    exact ⟨_, .tuple e c dd (by simpa using ra)⟩
  | _, _, _, .lst hz q l, r => by
    cases r
    obtain ⟨its, rv, ⟨o, n, e, c, _, dd⟩, _⟩ := I.list (SqL.of q)
    obtain ⟨as, ra⟩ := RpL.reads I l rv
    exact ⟨_, .list e c dd (by simpa using ra)⟩
theorem RpL.reads {X : Cx} {pins : List (Addr × Obj)} {σ : St} {H : Hp} {s : Shared} (I : Inv X pins σ H s) {Z : List Addr} : ∀ {ds : List D} {vs : List V} {us : List Value}, RpL Z H ds vs → Vals vs us → ∃ as, ReadsAll s.heap us ds as
  | _, _, _, .nil, r => by cases r; exact ⟨_, .nil⟩
  | _, _, _, .cons p l, r => by
    cases r with
    | cons r rr =>
      obtain ⟨as, h1⟩ := Rp.reads I p r
      obtain ⟨bs, h2⟩ := RpL.reads I l rr
      exact ⟨_, .cons h1 h2⟩
end
mutual
theorem Rp.lay {Z : List Addr} {H : Hp} : ∀ {d : D} {v : V}, Rp Z H d v → d.canLay0 = true
  | _, _, .none => rfl
  | _, _, .bool _ => rfl
  | _, _, .int _ => rfl
  | _, _, .str x h => by unfold PyData.canLay0; exact h
  | _, _, .tup _ _ l => by unfold PyData.canLay0; exact RpL.lay l
  | _, _, .lst _ _ l => by unfold PyData.canLay0; exact RpL.lay l
theorem RpL.lay {Z : List Addr} {H : Hp} : ∀ {ds : List D} {vs : List V}, RpL Z H ds vs → PyData.canLayAll0 ds = true
  | _, _, .nil => rfl
  | _, _, .cons r l => by unfold PyData.canLayAll0; rw [Rp.lay r, RpL.lay l]; rfl
end
noncomputable def KL (K : PySem.W.Frag) (a : Addr) (xs : List V) : Prop := ∃ (o : Obj) (its : Array Value) (n : Nat), K.lookup a = some o ∧ o.cls = .type "list" ∧ o.dict = none ∧ o.data = .seq its n ∧ its.size ≤ sizeLine ∧ Vals xs its.toList
inductive DV where
  | d (x : D)
  | ob (C : Addr) (fs : List (Str × D))
  | tbl (kvs : List (Str × D))
  | ex (q : Addr)
  | tpo (p xs q : List D)
  | nwt (p xs q : List D)
  | own (xs : List D)
  | new (xs : List D)
  | scr (K : PySem.W.Frag) (ns : List Int)
noncomputable abbrev DS := List (Option DV)
noncomputable def FsR (Z : List Addr) (H : Hp) : List (Str × D) → List (Str × V) → Prop := Paired fun (p : Str × D) (q : Str × V) => p.1 = q.1 ∧ Rp Z H p.2 q.2
noncomputable def ObR (Z : List Addr) (H : Hp) (C : Addr) (fs : List (Str × D)) (v : V) : Prop := ∃ a dx gs, v = .ref a ∧ a ∉ Z ∧ H a = some (.ins C dx gs) ∧ FsR Z H fs gs
noncomputable def KvR (Z : List Addr) (H : Hp) : List (Str × D) → List (Key × V) → Prop := Paired fun (p : Str × D) (q : Key × V) => q.1 = Sum.inr p.1 ∧ Rp Z H p.2 q.2
noncomputable def TbR (Z : List Addr) (H : Hp) (kvs : List (Str × D)) (v : V) : Prop := ∃ a kv, v = .ref a ∧ a ∉ Z ∧ H a = some (.dK kv) ∧ KvR Z H kvs kv
noncomputable def OwR (P Z : List Addr) (H : Hp) (xs : List D) (v : V) : Prop := ∃ a vs, v = .ref a ∧ a ∈ P ∧ H a = some (.lst vs) ∧ RpL Z H xs vs
noncomputable def TpR (P Z : List Addr) (H : Hp) (p xs q : List D) (v : V) : Prop := ∃ t a ps vs qs, v = .ref t ∧ t ∉ Z ∧ H t = some (.tup (ps ++ .ref a :: qs)) ∧ a ∈ P ∧ H a = some (.lst vs) ∧ RpL Z H p ps ∧ RpL Z H xs vs ∧ RpL Z H q qs
noncomputable def NtR (Z : List Addr) (H H' : Hp) (p xs q : List D) (v : V) : Prop := ∃ t a ps vs qs, v = .ref t ∧ t ∉ a :: Z ∧ H' t = some (.tup (ps ++ .ref a :: qs)) ∧ H a = none ∧ H' a = some (.lst vs) ∧ RpL (a :: Z) H' p ps ∧ RpL (a :: Z) H' xs vs ∧ RpL (a :: Z) H' q qs
noncomputable def OwA (H : Hp) : DV → V → Addr → Prop
  | .own _, v, a => v = .ref a
  | .tpo p _ _, v, a => ∃ t vs, v = .ref t ∧ H t = some (.tup vs) ∧ vs[p.length]? = some (.ref a)
  | _, _, _ => False
noncomputable def ownq : DV → Bool
  | .own _ => true
  | .tpo _ _ _ => true
  | _ => false
theorem OwA.q {H : Hp} {x : DV} {v : V} {a : Addr} (h : OwA H x v a) : ownq x = true := by
  cases x <;> first | exact h.elim | rfl
noncomputable def RE (O P : List Addr) (H H' : Hp) : DV → V → Prop
  | .d x, v => Rp (P ++ O) H' x v
  | .ob C fs, v => ObR (P ++ O) H' C fs v
  | .tbl kvs, v => TbR (P ++ O) H' kvs v
  | .ex q, v => v = .ref q
  | .tpo p xs q, v => TpR P (P ++ O) H' p xs q v
  | .nwt p xs q, v => NtR (P ++ O) H H' p xs q v
  | .own xs, v => OwR P (P ++ O) H' xs v
  | .new xs, v => ∃ a vs, v = .ref a ∧ H a = none ∧ H' a = some (.lst vs) ∧ RpL (a :: (P ++ O)) H' xs vs
  | .scr K ns, v => ∃ a, v = .ref a ∧ ((a ∉ P ++ O ∧ Rd H' a (.lst (ns.map V.int))) ∨ KL K a (ns.map V.int))
structure RS (O P : List Addr) (H : Hp) (σ : St) (δ : DS) : Prop where
  len : σ.length = δ.length
  dom : ∀ a, a ∈ P ++ O → ∃ o, H a = some o
  apart : ∀ a, a ∈ P → a ∉ O
  at' : ∀ (i : Nat) (x : DV), δ[i]? = some (some x) → ∃ v, σ[i]? = some (some v) ∧ (∀ xs, x ≠ .new xs) ∧ RE O P H H x v
  one : ∀ (i j : Nat) (x y : DV) (v w : V) (a : Addr), δ[i]? = some (some x) → δ[j]? = some (some y) → σ[i]? = some (some v) → σ[j]? = some (some w) → OwA H x v a → OwA H y w a → i = j
theorem TpR.kp {P P' Z Z' : List Addr} {H H' : Hp} (k : Kp Z H Z' H') (hP : ∀ a u, a ∈ P → H a = some u → a ∈ P' ∧ H' a = some u) {p xs q : List D} {v : V} (h : TpR P Z H p xs q v) : TpR P' Z' H' p xs q v := by
  obtain ⟨t, a, ps, vs, qs, e, hz, ht, hp, ha, l1, l2, l3⟩ := h
  exact ⟨t, a, ps, vs, qs, e, (k.at hz ht).1, (k.at hz ht).2, (hP a _ hp ha).1, (hP a _ hp ha).2, l1.kp k, l2.kp k, l3.kp k⟩
theorem NtR.no {Z : List Addr} {H : Hp} {p xs q : List D} {v : V} (h : NtR Z H H p xs q v) : False := by
  obtain ⟨t, a, ps, vs, qs, e, hz, ht, hn, ha, _⟩ := h
  rw [hn] at ha; cases ha
theorem NtR.on {Z : List Addr} {H H1 H2 : Hp} {p xs q : List D} {v : V} (h : NtR Z H H1 p xs q v) (s : Same H1 H2) : NtR Z H H2 p xs q v := by
  obtain ⟨t, a, ps, vs, qs, e, hz, ht, hn, ha, l1, l2, l3⟩ := h
  exact ⟨t, a, ps, vs, qs, e, hz, s _ _ ht, hn, s _ _ ha, l1.kp (.same s), l2.kp (.same s), l3.kp (.same s)⟩
theorem OwA.old {O P : List Addr} {H H' : Hp} {x : DV} {v : V} {a : Addr} (k : ∀ b o, b ∉ P ++ O → H b = some o → H' b = some o) (r : RE O P H H x v) (h : OwA H' x v a) : OwA H x v a := by
  cases x with
  | own xs => exact h
  | tpo p xs q =>
    obtain ⟨t, b, ps, vs, qs, e, hz, ht, _⟩ := r
    obtain ⟨t', us, e', ht', hu⟩ := h
    subst e
    cases e'
    rw [k _ _ hz ht] at ht'
    cases ht'
    exact ⟨t, _, rfl, ht, hu⟩
  | _ => exact h.elim
theorem OwA.new {O P : List Addr} {H : Hp} {x : DV} {v : V} {a : Addr} (r : RE O P H H x v) (h : OwA H x v a) : a ∈ P := by
  cases x with
  | own xs =>
    obtain ⟨b, vs, e, hP, _⟩ := r
    have h' : v = .ref a := h
    rw [h'] at e; cases e; exact hP
  | tpo p xs q =>
    obtain ⟨t, b, ps, vs, qs, e, hz, ht, hP, _, l, _⟩ := r
    obtain ⟨t', us, e', ht', hu⟩ := h
    subst e
    cases e'
    rw [ht] at ht'
    cases ht'
    rw [l.length, List.getElem?_append_right (Nat.le_refl _), Nat.sub_self] at hu
    cases hu
    exact hP
  | _ => exact h.elim
theorem FsR.kp {Z Z' : List Addr} {H H' : Hp} (k : Kp Z H Z' H') {fs : List (Str × D)} {gs : List (Str × V)} (h : FsR Z H fs gs) : FsR Z' H' fs gs := Paired.mapP h fun _ _ r => ⟨r.1, r.2.kp k⟩
theorem ObR.kp {Z Z' : List Addr} {H H' : Hp} (k : Kp Z H Z' H') {C : Addr} {fs : List (Str × D)} {v : V} (h : ObR Z H C fs v) : ObR Z' H' C fs v := by
  obtain ⟨a, dx, gs, e, hz, ha, hf⟩ := h
  refine ⟨a, dx, gs, e, fun hz' => ?_, k.keep _ _ hz ha, hf.kp k⟩
  rcases k.new a hz' with z | z
  · exact hz z
  · rw [ha] at z; cases z
theorem TbR.kp {Z Z' : List Addr} {H H' : Hp} (k : Kp Z H Z' H') {kvs : List (Str × D)} {v : V} (h : TbR Z H kvs v) : TbR Z' H' kvs v := by
  obtain ⟨a, kv, e, hz, ha, hf⟩ := h
  refine ⟨a, kv, e, fun hz' => ?_, k.keep _ _ hz ha, Paired.mapP hf fun _ _ r => ⟨r.1, r.2.kp k⟩⟩
  rcases k.new a hz' with z | z
  · exact hz z
  · rw [ha] at z; cases z
theorem RS.same {O P : List Addr} {H H' : Hp} {σ : St} {δ : DS} (r : RS O P H σ δ) (h : Same H H') : RS O P H' σ δ := by
  refine ⟨r.len, fun a ha => ?_, r.apart, fun i x e => ?_, fun i j x y v w a e1 e2 e3 e4 o1 o2 => ?_⟩
  · obtain ⟨o, e⟩ := r.dom a ha
    exact ⟨o, h a o e⟩
  · obtain ⟨v, e1, e2, e3⟩ := r.at' i x e
    refine ⟨v, e1, e2, ?_⟩
    cases x with
    | d x => exact Rp.kp (.same h) e3
    | ob C fs => exact ObR.kp (.same h) e3
    | tbl kvs => exact TbR.kp (.same h) e3
    | ex q => exact e3
    | tpo p xs q => exact TpR.kp (.same h) (fun a u hp ha => ⟨hp, h a u ha⟩) e3
    | nwt p xs q => exact (NtR.no e3).elim
    | own xs =>
      obtain ⟨a, vs, ev, hP, ha, hl⟩ := e3
      exact ⟨a, vs, ev, hP, h a _ ha, hl.kp (.same h)⟩
    | new xs => exact absurd rfl (e2 xs)
    | scr K ns =>
      obtain ⟨a, ev, hz⟩ := e3
      exact ⟨a, ev, hz.imp (fun z => ⟨z.1, Same.rd h z.2⟩) fun z => z⟩
  · obtain ⟨v', d1, _, r1⟩ := r.at' i x e1
    obtain ⟨w', d2, _, r2⟩ := r.at' j y e2
    rw [e3] at d1; cases d1
    rw [e4] at d2; cases d2
    exact r.one i j x y v w a e1 e2 e3 e4 (o1.old (fun b o _ q => h b o q) r1) (o2.old (fun b o _ q => h b o q) r2)
theorem RE.on {O P : List Addr} {H H1 H2 : Hp} {x : DV} {v : V} (r : RE O P H H1 x v) (h : Same H1 H2) : RE O P H H2 x v := by
  cases x with
  | d x => exact Rp.kp (.same h) r
  | ob C fs => exact ObR.kp (.same h) r
  | tbl kvs => exact TbR.kp (.same h) r
  | ex q => exact r
  | tpo p xs q => exact TpR.kp (.same h) (fun a u hp ha => ⟨hp, h a u ha⟩) r
  | nwt p xs q => exact NtR.on r h
  | own xs =>
    obtain ⟨a, vs, ev, hP, ha, hl⟩ := r
    exact ⟨a, vs, ev, hP, h a _ ha, hl.kp (.same h)⟩
  | new xs =>
    obtain ⟨a, vs, ev, hn, ha, hl⟩ := r
    exact ⟨a, vs, ev, hn, h a _ ha, hl.kp (.same h)⟩
  | scr K ns =>
    obtain ⟨a, ev, hz⟩ := r
    exact ⟨a, ev, hz.imp (fun z => ⟨z.1, Same.rd h z.2⟩) fun z => z⟩
theorem RE.from {O P : List Addr} {H H1 H2 : Hp} {x : DV} {v : V} (r : RE O P H1 H2 x v) (h : Same H H1) : RE O P H H2 x v := by
  cases x with
  | d x => exact r
  | ob C fs => exact r
  | tbl kvs => exact r
  | ex q => exact r
  | tpo p xs q => exact r
  | nwt p xs q =>
    obtain ⟨t, a, ps, vs, qs, e, hz, ht, hn, ha, ll⟩ := r
    exact ⟨t, a, ps, vs, qs, e, hz, ht, h.free hn, ha, ll⟩
  | own xs => exact r
  | new xs =>
    obtain ⟨a, vs, ev, hn, ha, hl⟩ := r
    exact ⟨a, vs, ev, h.free hn, ha, hl⟩
  | scr K ns => exact r
noncomputable abbrev M (α : Type) := Option (Except Value α)
noncomputable def bd {α β : Type} (m : M α) (f : α → M β) : M β := match m with
  | none => none
  | some (.error c) => some (.error c)
  | some (.ok a) => f a
noncomputable def rt {α : Type} (a : α) : M α := some (.ok a)
@[simp] theorem zye {α β : Type} (a : α) (f : α → M β) : bd (rt a) f = f a := rfl
@[simp] theorem bd_ok {α β : Type} (a : α) (f : α → M β) : bd (some (.ok a)) f = f a := rfl
@[simp] theorem zyw {α β : Type} (f : α → M β) : bd (none : M α) f = none := rfl
@[simp] theorem bd_err {α β : Type} (c : Value) (f : α → M β) : bd (some (.error c) : M α) f = some (.error c) := rfl
noncomputable def op {α : Type} (o : Option α) : M α := match o with
  | none => none
  | some a => some (.ok a)
@[simp] theorem zzb {α : Type} (a : α) : op (some a) = rt a := rfl
@[simp] theorem op_none {α : Type} : op (none : Option α) = none := rfl
theorem zze {α β : Type} {m : M α} {f : α → M β} {r : Except Value β} (h : bd m f = some r) : (∃ a, m = some (.ok a) ∧ f a = some r) ∨ (∃ c, m = some (.error c) ∧ r = .error c) := by
  cases m with
  | none => cases h
  | some e =>
    cases e with
    | ok a => exact .inl ⟨a, rfl, h⟩
    | error c => exact .inr ⟨c, rfl, by cases h; rfl⟩
noncomputable def asD : DV → Option D
  | .d x => some x
  | .new xs => some (.list xs)
  | _ => none
noncomputable def asL : DV → Option (List D)
  | .d (.list xs) => some xs
  | .own xs => some xs
  | .new xs => some xs
  | _ => none
noncomputable def asA : DV → Option DV
  | .d x => some (.d x)
  | .ob C fs => some (.ob C fs)
  | .tbl kvs => some (.tbl kvs)
  | .ex q => some (.ex q)
  | .new xs => some (.d (.list xs))
  | .scr K ns => some (.scr K ns)
  | _ => none
@[simp] theorem asA_scr (K : PySem.W.Frag) (ns : List Int) : asA (.scr K ns) = some (.scr K ns) := rfl
@[simp] theorem asD_d (x : D) : asD (.d x) = some x := rfl
@[simp] theorem zxf (xs : List D) : asD (.new xs) = some (.list xs) := rfl
@[simp] theorem asL_d (xs : List D) : asL (.d (.list xs)) = some xs := rfl
@[simp] theorem zyx (xs : List D) : asL (.own xs) = some xs := rfl
@[simp] theorem zxd (xs : List D) : asL (.new xs) = some xs := rfl
@[simp] theorem asA_d (x : D) : asA (.d x) = some (.d x) := rfl
@[simp] theorem asA_ob (C : Addr) (fs : List (Str × D)) : asA (.ob C fs) = some (.ob C fs) := rfl
@[simp] theorem asA_new (xs : List D) : asA (.new xs) = some (.d (.list xs)) := rfl
section
variable {O P : List Addr} {H H' : Hp} {x : DV} {v : V}
theorem new_data {xs : List D} (dom : ∀ a, a ∈ P ++ O → ∃ o, H a = some o) (r : RE O P H H' (.new xs) v) : Rp (P ++ O) H' (.list xs) v := by
  obtain ⟨a, vs, rfl, hn, ha, hl⟩ := r
  refine .lst (fun h => ?_) ha (hl.kp (.sub fun b hb => List.mem_cons_of_mem _ hb))
  obtain ⟨o, e⟩ := dom a h
  rw [e] at hn; cases hn
theorem RE.data {d : D} (dom : ∀ a, a ∈ P ++ O → ∃ o, H a = some o) (r : RE O P H H' x v) (h : asD x = some d) : Rp (P ++ O) H' d v := by
  cases x with
  | d y => cases h; exact r
  | ob C fs => cases h
  | tbl kvs => cases h
  | ex q => cases h
  | tpo p xs q => cases h
  | nwt p xs q => cases h
  | own xs => cases h
  | new xs => cases h; exact new_data dom r
  | scr K ns => cases h
theorem RE.list {xs : List D} (r : RE O P H H' x v) (h : asL x = some xs) : ∃ a vs, v = .ref a ∧ H' a = some (.lst vs) ∧ RpL (P ++ O) H' xs vs := by
  cases x with
  | d y =>
    cases y <;> simp only [asL] at h <;> try cases h
    have r' : Rp (P ++ O) H' _ v := r
    cases r' with
    | lst hz q l => exact ⟨_, _, rfl, q, l⟩
  | ob C fs => cases h
  | tbl kvs => cases h
  | ex q => cases h
  | tpo p xs q => cases h
  | nwt p xs q => cases h
  | own ys =>
    cases h
    obtain ⟨a, vs, rfl, hP, ha, hl⟩ := r
    exact ⟨a, vs, rfl, ha, hl⟩
  | new ys =>
    cases h
    obtain ⟨a, vs, rfl, hn, ha, hl⟩ := r
    exact ⟨a, vs, rfl, ha, hl.kp (.sub fun b hb => List.mem_cons_of_mem _ hb)⟩
  | scr K ns => cases h
theorem RE.arg {y : DV} (dom : ∀ a, a ∈ P ++ O → ∃ o, H a = some o) (r : RE O P H H' x v) (h : asA x = some y) : RE O P H H' y v := by
  cases x with
  | d z => cases h; exact r
  | ob C fs => cases h; exact r
  | tbl kvs => cases h; exact r
  | ex q => cases h; exact r
  | tpo p xs q => cases h
  | nwt p xs q => cases h
  | own xs => cases h
  | new xs => cases h; exact new_data dom r
  | scr K ns => cases h; exact r
end
noncomputable def Fn (E : XK) (O P : List Addr) (H₀ H : Hp) (Q : VK) : Except Value DV → Prop
  | .ok x => ∀ v H', Same H H' → RE O P H₀ H' x v → Q v H'
  | .error c => ∀ dx H', Same H H' → E c dx H'
noncomputable def FnB (E : XK) (H : Hp) (Q : Bool → Hp → Prop) : Except Value Bool → Prop
  | .ok b => ∀ H', Same H H' → Q b H'
  | .error c => ∀ dx H', Same H H' → E c dx H'
noncomputable def REs (O P : List Addr) (H H' : Hp) : List DV → List V → Prop := Paired (RE O P H H')
noncomputable def FnA (E : XK) (O P : List Addr) (H₀ H : Hp) (Q : List V → Hp → Prop) : Except Value (List DV) → Prop
  | .ok xs => ∀ vs H', Same H H' → REs O P H₀ H' xs vs → Q vs H'
  | .error c => ∀ dx H', Same H H' → E c dx H'
theorem Fn.on {E : XK} {O P : List Addr} {H₀ H H1 : Hp} {Q : VK} {r : Except Value DV} (h : Fn E O P H₀ H Q r) (s : Same H H1) : Fn E O P H₀ H1 Q r := by
  cases r with
  | ok x => exact fun v H' s' q => h v H' (s.trans s') q
  | error c => exact fun dx H' s' => h dx H' (s.trans s')
theorem FnB.on {E : XK} {H H1 : Hp} {Q : Bool → Hp → Prop} {r : Except Value Bool} (h : FnB E H Q r) (s : Same H H1) : FnB E H1 Q r := by
  cases r with
  | ok x => exact fun H' s' => h H' (s.trans s')
  | error c => exact fun dx H' s' => h dx H' (s.trans s')
theorem FnA.on {E : XK} {O P : List Addr} {H₀ H H1 : Hp} {Q : List V → Hp → Prop} {r : Except Value (List DV)} (h : FnA E O P H₀ H Q r) (s : Same H H1) : FnA E O P H₀ H1 Q r := by
  cases r with
  | ok x => exact fun v H' s' q => h v H' (s.trans s') q
  | error c => exact fun dx H' s' => h dx H' (s.trans s')
noncomputable def tE (E : XK) (f : DS → M DV) : TE := fun σ H Q => ∃ O P δ r, RS O P H σ δ ∧ f δ = some r ∧ Fn E O P H H Q r
noncomputable def tBo (E : XK) (f : DS → M Bool) : TT := fun σ H Q => ∃ O P δ r, RS O P H σ δ ∧ f δ = some r ∧ FnB E H Q r
noncomputable def tAr (E : XK) (f : DS → M (List DV)) : TA := fun σ H Q => ∃ O P δ r, RS O P H σ δ ∧ f δ = some r ∧ FnA E O P H H Q r
noncomputable def PX (X : Cx) (E : XK) (e : Expr) (f : DS → M DV) : Prop := PE X e (tE E f)
noncomputable def PB (X : Cx) (E : XK) (e : Expr) (f : DS → M Bool) : Prop := PT X e (tBo E f)
noncomputable def PAs (X : Cx) (E : XK) (es : List Expr) (f : DS → M (List DV)) : Prop := PA X es (tAr E f)
section
variable {X : Cx} {E : XK}
theorem PE.mono {e : Expr} {t t' : TE} (h : PE X e t) (m : ∀ σ H Q, t' σ H Q → t σ H Q) : PE X e t' := fun pins s σ H Q I q => h pins s σ H Q I (m σ H Q q)
theorem PT.mono {e : Expr} {t t' : TT} (h : PT X e t) (m : ∀ σ H Q, t' σ H Q → t σ H Q) : PT X e t' := fun pins s σ H Q I q => h pins s σ H Q I (m σ H Q q)
theorem PA.mono {es : List Expr} {t t' : TA} (h : PA X es t) (m : ∀ σ H Q, t' σ H Q → t σ H Q) : PA X es t' := fun pos pins s σ H Q I q => h pos pins s σ H Q I (m σ H Q q)
theorem tE_bd {f : DS → M DV} {g : DS → DV → M DV} {σ : St} {H : Hp} {Q t : VK} (h : tE E (fun δ => bd (f δ) (g δ)) σ H Q)
    (k : ∀ O P δ x r v H1, RS O P H σ δ → RS O P H1 σ δ → Same H H1 → RE O P H H1 x v → g δ x = some r → Fn E O P H H1 Q r → t v H1) : tE E f σ H t := by
  obtain ⟨O, P, δ, r, rs, e, q⟩ := h
  rcases zze e with ⟨x, e1, e2⟩ | ⟨c, e1, e2⟩
  · exact ⟨O, P, δ, .ok x, rs, e1, fun v H1 s1 re => k O P δ x r v H1 rs (rs.same s1) s1 re e2 (q.on s1)⟩
  · subst e2
    exact ⟨O, P, δ, .error c, rs, e1, q⟩
theorem tE_bdB {f : DS → M DV} {g : DS → DV → M Bool} {σ : St} {H : Hp} {Q : Bool → Hp → Prop} {t : VK} (h : tBo E (fun δ => bd (f δ) (g δ)) σ H Q)
    (k : ∀ O P δ x r v H1, RS O P H σ δ → RS O P H1 σ δ → Same H H1 → RE O P H H1 x v → g δ x = some r → FnB E H1 Q r → t v H1) : tE E f σ H t := by
  obtain ⟨O, P, δ, r, rs, e, q⟩ := h
  rcases zze e with ⟨x, e1, e2⟩ | ⟨c, e1, e2⟩
  · exact ⟨O, P, δ, .ok x, rs, e1, fun v H1 s1 re => k O P δ x r v H1 rs (rs.same s1) s1 re e2 (q.on s1)⟩
  · subst e2
    exact ⟨O, P, δ, .error c, rs, e1, q⟩
theorem tB_bd {f : DS → M Bool} {g : DS → Bool → M DV} {σ : St} {H : Hp} {Q : VK} {t : Bool → Hp → Prop} (h : tE E (fun δ => bd (f δ) (g δ)) σ H Q)
    (k : ∀ O P δ x r H1, RS O P H σ δ → RS O P H1 σ δ → Same H H1 → g δ x = some r → Fn E O P H H1 Q r → t x H1) : tBo E f σ H t := by
  obtain ⟨O, P, δ, r, rs, e, q⟩ := h
  rcases zze e with ⟨x, e1, e2⟩ | ⟨c, e1, e2⟩
  · exact ⟨O, P, δ, .ok x, rs, e1, fun H1 s1 => k O P δ x r H1 rs (rs.same s1) s1 e2 (q.on s1)⟩
  · subst e2
    exact ⟨O, P, δ, .error c, rs, e1, q⟩
theorem tB_bdB {f : DS → M Bool} {g : DS → Bool → M Bool} {σ : St} {H : Hp} {Q : Bool → Hp → Prop} {t : Bool → Hp → Prop} (h : tBo E (fun δ => bd (f δ) (g δ)) σ H Q)
    (k : ∀ O P δ x r H1, RS O P H σ δ → RS O P H1 σ δ → Same H H1 → g δ x = some r → FnB E H1 Q r → t x H1) : tBo E f σ H t := by
  obtain ⟨O, P, δ, r, rs, e, q⟩ := h
  rcases zze e with ⟨x, e1, e2⟩ | ⟨c, e1, e2⟩
  · exact ⟨O, P, δ, .ok x, rs, e1, fun H1 s1 => k O P δ x r H1 rs (rs.same s1) s1 e2 (q.on s1)⟩
  · subst e2
    exact ⟨O, P, δ, .error c, rs, e1, q⟩
noncomputable def eVar (i : Nat) (δ : DS) : M DV := op ((δ[i]?).join)
theorem zzx (i : Nat) {x : Str} {pos : Pos} (h : PE X (.Name x pos) (tVar i)) : PX X E (.Name x pos) (eVar i) := PE.mono h fun σ H Q q => by
  obtain ⟨O, P, δ, r, rs, e, q⟩ := q
  unfold eVar at e
  cases ed : δ[i]? with
  | none => rw [ed] at e; cases e
  | some o =>
    cases o with
    | none => rw [ed] at e; cases e
    | some y =>
      rw [ed] at e
      cases e
      obtain ⟨v, e1, e2, e3⟩ := rs.at' i y ed
      exact ⟨v, e1, q v H (Same.refl H) e3⟩
noncomputable def eC (x : D) (_ : DS) : M DV := rt (.d x)
theorem px_con {e : Expr} {x : D} {v : V} (h : PE X e (tC v)) (hr : ∀ Z H, Rp Z H x v) : PX X E e (eC x) := PE.mono h fun σ H Q q => by
  obtain ⟨O, P, δ, r, rs, e, q⟩ := q
  cases e
  exact q v H (Same.refl H) (hr _ _)
theorem zza {i : Int} {j pos} : PX X E (.Constant (.int i) j pos) (eC (.int i)) := px_con pe_int fun _ _ => .int i
theorem px_bl {b : Bool} {j pos} : PX X E (.Constant (.bool b) j pos) (eC (.bool b)) := px_con pe_bl fun _ _ => .bool b
theorem px_non {j pos} : PX X E (.Constant .none j pos) (eC .none) := px_con pe_non fun _ _ => .none
theorem px_str {x : Str} {j pos} (hx : PyData.strOk x = true) : PX X E (.Constant (.str x) j pos) (eC (.str x)) := px_con pe_str fun _ _ => .str x hx
theorem px_gint {x : Str} {i : Int} {t : Tok} {pos : Pos} (hg : Gl X x) (hm : X.mg x = some (.int i t)) (hd : (x == ("__debug__" : Str)) = false := by decide) : PX X E (.Name x pos) (eC (.int i)) := px_con (v := .int i) (pe_glob hg hm ⟨t, rfl⟩ hd) fun _ _ => .int i
noncomputable def OpV (X : Cx) (E : XK) (f : Value → Value → Sem Value) (g : DV → DV → M DV) : Prop :=
  ∀ (pins : List (Addr × Obj)) (s : Shared) (σ : St) (O P : List Addr) (H₀ H : Hp) (x y : DV) (v u : V) (vv uu : Value) (r : Except Value DV) (Q : VK), Inv X pins σ H s → (∀ a, a ∈ P ++ O → ∃ o, H₀ a = some o) → Same H₀ H →
    RE O P H₀ H x v → RE O P H₀ H y u → RelV v vv → RelV u uu → g x y = some r → Fn E O P H₀ H Q r → wpAny (model X.prog X.w) X.A (f vv uu) (EP X pins σ Q) X.xe s
noncomputable def e2 (g : DV → DV → M DV) (fa fb : DS → M DV) (δ : DS) : M DV := bd (fa δ) fun x => bd (fb δ) fun y => g x y
theorem OpV.rule {f : Value → Value → Sem Value} {g : DV → DV → M DV} {R : R2} (ho : OpR X f R)
    (h : ∀ (O P : List Addr) (H₀ H : Hp) (x y : DV) (v u : V) (r : Except Value DV) (Q : VK), (∀ a, a ∈ P ++ O → ∃ o, H₀ a = some o) → Same H₀ H → RE O P H₀ H x v → RE O P H₀ H y u → g x y = some r → Fn E O P H₀ H Q r → R v u H Q) : OpV X E f g :=
  fun pins s σ O P H₀ H x y v u vv uu r Q I hd hs rx ry ev eu e q => ho pins s σ H v u vv uu Q I ev eu (h O P H₀ H x y v u r Q hd hs rx ry e q)
theorem t2 {g : DV → DV → M DV} {fa fb : DS → M DV} {σ : St} {H : Hp} {Q : VK} (h : tE E (e2 g fa fb) σ H Q) {t : V → V → Hp → Prop}
    (k : ∀ O P x y r v u H1, (∀ a, a ∈ P ++ O → ∃ o, H a = some o) → Same H H1 → RE O P H H1 x v → RE O P H H1 y u → g x y = some r → Fn E O P H H1 Q r → t v u H1) :
    tE E fa σ H fun v H1 => tE E fb σ H1 fun u H2 => t v u H2 := by
  refine tE_bd (g := fun δ x => bd (fb δ) fun y => g x y) h fun O P δ x r v H1 rs rs1 s1 rx e q => ?_
  rcases zze e with ⟨y, e1, e2⟩ | ⟨c, e1, e2⟩
  · refine ⟨O, P, δ, .ok y, rs1, e1, fun u H2 s2 ry => k O P x y r v u H2 rs.dom (s1.trans s2) (rx.on s2) (ry.from s1) e2 (q.on s2)⟩
  · subst e2
    exact ⟨O, P, δ, .error c, rs1, e1, q⟩
theorem px_op {a b : Expr} {o : Operator} {fa fb : DS → M DV} {g : DV → DV → M DV} {pos : Pos} (ho : OpV X E (binaryOp o) g) (ha : PX X E a fa) (hb : PX X E b fb) : PX X E (.BinOp a o b pos) (e2 g fa fb) := by
  intro pins s σ H Q I h
  exact wpAny_BinOp (bin ha hb I (t2 h (t := fun v u H1 => ∃ O P x y r, (∀ a, a ∈ P ++ O → ∃ o, H a = some o) ∧ Same H H1 ∧ RE O P H H1 x v ∧ RE O P H H1 y u ∧ g x y = some r ∧ Fn E O P H H1 Q r) fun O P x y r v u H1 h1 h2 h3 h4 h5 h6 => ⟨O, P, x, y, r, h1, h2, h3, h4, h5, h6⟩)
    fun vv uu s2 v u H2 I2 rv ru ⟨O, P, x, y, r, h1, h2, h3, h4, h5, h6⟩ => ho pins s2 σ O P H H2 x y v u vv uu r Q I2 h1 h2 h3 h4 rv ru h5 h6)
theorem px_cmp {a b : Expr} {o : CmpOp} {fa fb : DS → M DV} {g : DV → DV → M DV} {pos : Pos} (ho : OpV X E (compareOp o) g) (ha : PX X E a fa) (hb : PX X E b fb) (hm : behindInMarks o b = false := by first | exact nomark _ | rfl) : PX X E (.Compare a [o] [b] pos) (e2 g fa fb) := by
  intro pins s σ H Q I h
  exact wpAny_Compare1 (bin ha hb I (t2 h (t := fun v u H1 => ∃ O P x y r, (∀ a, a ∈ P ++ O → ∃ o, H a = some o) ∧ Same H H1 ∧ RE O P H H1 x v ∧ RE O P H H1 y u ∧ g x y = some r ∧ Fn E O P H H1 Q r) fun O P x y r v u H1 h1 h2 h3 h4 h5 h6 => ⟨O, P, x, y, r, h1, h2, h3, h4, h5, h6⟩)
    fun vv uu s2 v u H2 I2 rv ru ⟨O, P, x, y, r, h1, h2, h3, h4, h5, h6⟩ => ho pins s2 σ O P H H2 x y v u vv uu r Q I2 h1 h2 h3 h4 rv ru h5 h6) hm
noncomputable def gI (C : Int → Int → Bool) (h : Int → Int → D) (x y : DV) : M DV := match x, y with
  | .d (.int i), .d (.int j) => if C i j = true then rt (.d (h i j)) else none
  | _, _ => none
theorem gI_cases {C : Int → Int → Bool} {h : Int → Int → D} {x y : DV} {r : Except Value DV} (e : gI C h x y = some r) : ∃ i j, x = .d (.int i) ∧ y = .d (.int j) ∧ C i j = true ∧ r = .ok (.d (h i j)) := by
  unfold gI at e
  split at e
  · rename_i i j
    split at e
    · cases e; exact ⟨i, j, rfl, rfl, by assumption, rfl⟩
    · cases e
  · cases e
theorem opv_int {f : Value → Value → Sem Value} {C : Int → Int → Bool} {CP : Int → Int → Prop} {h : Int → Int → D} {hv : Int → Int → V} (ho : OpR X f (rI CP hv)) (hC : ∀ i j, C i j = true → CP i j) (hr : ∀ i j Z H, Rp Z H (h i j) (hv i j)) : OpV X E f (gI C h) :=
  OpV.rule ho fun O P H₀ H x y v u r Q hd hs rx ry e q => by
    obtain ⟨i, j, rfl, rfl, hc, rfl⟩ := gI_cases e
    cases rx; cases ry
    exact ⟨i, j, rfl, rfl, hC i j hc, q _ H (Same.refl H) (hr i j _ _)⟩
noncomputable def yes2 (_ _ : Int) : Bool := true
theorem opv_int0 {f : Value → Value → Sem Value} {h : Int → Int → D} {hv : Int → Int → V} (ho : OpR X f (rI0 hv)) (hr : ∀ i j Z H, Rp Z H (h i j) (hv i j)) : OpV X E f (gI yes2 h) :=
  OpV.rule ho fun O P H₀ H x y v u r Q hd hs rx ry e q => by
    obtain ⟨i, j, rfl, rfl, hc, rfl⟩ := gI_cases e
    cases rx; cases ry
    exact ⟨i, j, rfl, rfl, q _ H (Same.refl H) (hr i j _ _)⟩
noncomputable def gAdd := gI yes2 fun i j => .int (i + j)
noncomputable def gSub := gI yes2 fun i j => .int (i - j)
noncomputable def cMul (i j : Int) : Bool := (decide (-(2 ^ 64) < i) && decide (i < 2 ^ 64)) || (decide (-(2 ^ 64) < j) && decide (j < 2 ^ 64))
noncomputable def gMul := gI cMul fun i j => .int (i * j)
noncomputable def cDiv (_ j : Int) : Bool := decide (0 < j) && decide (j < 1073741824)
noncomputable def gDiv := gI cDiv fun i j => .int (i / j)
noncomputable def cMod (_ j : Int) : Bool := decide (0 < j)
noncomputable def gMod := gI cMod fun i j => .int (i % j)
noncomputable def gLt := gI yes2 fun i j => .bool (decide (i < j))
noncomputable def gLe := gI yes2 fun i j => .bool (decide (i ≤ j))
noncomputable def gGt := gI yes2 fun i j => .bool (decide (j < i))
noncomputable def gGe := gI yes2 fun i j => .bool (decide (j ≤ i))
theorem ov_add : OpV X E (binaryOp .Add) gAdd := opv_int0 op_add fun _ _ _ _ => .int _
theorem ov_sub : OpV X E (binaryOp .Sub) gSub := opv_int0 op_sub fun _ _ _ _ => .int _
theorem ov_mul : OpV X E (binaryOp .Mult) gMul := opv_int op_mul (fun i j h => by simpa [cMul, CMul] using h) fun _ _ _ _ => .int _
theorem ov_div : OpV X E (binaryOp .FloorDiv) gDiv := opv_int op_fdiv (fun i j h => by simpa [cDiv, CDiv] using h) fun _ _ _ _ => .int _
theorem ov_mod : OpV X E (binaryOp .Mod) gMod := opv_int op_mod (fun i j h => by simpa [cMod] using h) fun _ _ _ _ => .int _
theorem ov_lt : OpV X E (compareOp .Lt) gLt := opv_int0 op_lt fun _ _ _ _ => .bool _
theorem ov_le : OpV X E (compareOp .LtE) gLe := opv_int0 op_le fun _ _ _ _ => .bool _
theorem ov_gt : OpV X E (compareOp .Gt) gGt := opv_int0 op_gt fun _ _ _ _ => .bool _
end
end L3
set_option Elab.async false
set_option linter.all false
set_option maxRecDepth 100000
set_option maxHeartbeats 4000000
set_option autoImplicit false
namespace L3
open PySem PySem.Spec L2
open PyProof.Rows hiding St
noncomputable def asQ : DV → Option D
  | .d x => some x
  | .own xs => some (.list xs)
  | .new xs => some (.list xs)
  | _ => none
@[simp] theorem asQ_d (x : D) : asQ (.d x) = some x := rfl
@[simp] theorem zyv (xs : List D) : asQ (.own xs) = some (.list xs) := rfl
@[simp] theorem zya (xs : List D) : asQ (.new xs) = some (.list xs) := rfl
section
variable {X : Cx} {E : XK}
theorem reads_list {pins : List (Addr × Obj)} {σ : St} {H : Hp} {s : Shared} (I : Inv X pins σ H s) {Z : List Addr} {a : Addr} {xs : List D} {vs : List V} (q : H a = some (.lst vs)) (l : RpL Z H xs vs) : ∃ as, Reads s.heap (.ref a) (.list xs) as := by
  obtain ⟨its, rv, ⟨o, n, e, c, _, dd⟩, _⟩ := I.list (SqL.of q)
  obtain ⟨as, ra⟩ := RpL.reads I l rv
  exact ⟨_, .list e c dd (by simpa using ra)⟩
theorem RE.reads {pins : List (Addr × Obj)} {σ : St} {O P : List Addr} {H₀ H : Hp} {s : Shared} {x : DV} {v : V} {u : Value} {d : D} (I : Inv X pins σ H s) (r : RE O P H₀ H x v) (ru : RelV v u) (h : asQ x = some d) : (∃ as, Reads s.heap u d as) ∧ d.canLay0 = true := by
  cases x with
  | d y =>
    cases h
    have r' : Rp (P ++ O) H d v := r
    exact ⟨Rp.reads I r' ru, r'.lay⟩
  | ob C fs => cases h
  | tbl kvs => cases h
  | ex q => cases h
  | tpo p xs q => cases h
  | nwt p xs q => cases h
  | own xs =>
    cases h
    obtain ⟨a, vs, rfl, hP, ha, hl⟩ := r
    cases ru
    exact ⟨reads_list I ha hl, by unfold PyData.canLay0; exact hl.lay⟩
  | new xs =>
    cases h
    obtain ⟨a, vs, rfl, hn, ha, hl⟩ := r
    cases ru
    exact ⟨reads_list I ha hl, by unfold PyData.canLay0; exact hl.lay⟩
  | scr K ns => cases h
noncomputable def gEq (neg : Bool) (x y : DV) : M DV := match asQ x, asQ y with
  | some a, some b => if a.depth ≤ 60 then rt (.d (.bool (if neg = true then !PyData.eqv a b else PyData.eqv a b))) else none
  | _, _ => none
theorem gEq_cases {neg : Bool} {x y : DV} {r : Except Value DV} (e : gEq neg x y = some r) : ∃ a b, asQ x = some a ∧ asQ y = some b ∧ a.depth ≤ 60 ∧ r = .ok (.d (.bool (if neg = true then !PyData.eqv a b else PyData.eqv a b))) := by
  unfold gEq at e
  split at e
  · rename_i a b h1 h2
    split at e
    · cases e; exact ⟨a, b, h1, h2, by assumption, rfl⟩
    · cases e
  · cases e
theorem ov_eq (hu : X.A.units + 64 < cLine) : OpV X E (compareOp .Eq) (gEq false) := fun pins s σ O P H₀ H x y v u vv uu r Q I hd hs rx ry ev eu e q => by
  obtain ⟨a, b, h1, h2, hdp, rfl⟩ := gEq_cases e
  obtain ⟨⟨as, ra⟩, la⟩ := rx.reads I ev h1
  obtain ⟨⟨bs, rb⟩, lb⟩ := ry.reads I eu h2
  exact SeqAt.compareEq_reads ra rb la lb (by have := Nat.min_le_left a.depth b.depth; lia) ⟨.bl _, H, I, rfl, q _ H (Same.refl H) (.bool _)⟩
theorem ov_ne (hu : X.A.units + 64 < cLine) : OpV X E (compareOp .NotEq) (gEq true) := fun pins s σ O P H₀ H x y v u vv uu r Q I hd hs rx ry ev eu e q => by
  obtain ⟨a, b, h1, h2, hdp, rfl⟩ := gEq_cases e
  obtain ⟨⟨as, ra⟩, la⟩ := rx.reads I ev h1
  obtain ⟨⟨bs, rb⟩, lb⟩ := ry.reads I eu h2
  exact SeqAt.compareNe_reads ra rb la lb (by have := Nat.min_le_left a.depth b.depth; lia) ⟨.bl _, H, I, rfl, q _ H (Same.refl H) (.bool _)⟩
noncomputable def gIn (neg : Bool) (x y : DV) : M DV := match asQ x, asQ y with
  | some a, some (.list ys) => if a.depth ≤ 60 then rt (.d (.bool (if neg = true then !ys.any (fun z => PyData.eqv z a) else ys.any fun z => PyData.eqv z a))) else none
  | some a, some (.tuple ys) => if a.depth ≤ 60 then rt (.d (.bool (if neg = true then !ys.any (fun z => PyData.eqv z a) else ys.any fun z => PyData.eqv z a))) else none
  | _, _ => none
theorem gIn_cases {neg : Bool} {x y : DV} {r : Except Value DV} (e : gIn neg x y = some r) : ∃ a ys, asQ x = some a ∧ (asQ y = some (.list ys) ∨ asQ y = some (.tuple ys)) ∧ a.depth ≤ 60 ∧ r = .ok (.d (.bool (if neg = true then !ys.any (fun z => PyData.eqv z a) else ys.any fun z => PyData.eqv z a))) := by
  unfold gIn at e
  split at e
  · rename_i a b h1 h2
    split at e
    · cases e; exact ⟨a, _, h1, .inl h2, by assumption, rfl⟩
    · cases e
  · rename_i a b h1 h2
    split at e
    · cases e; exact ⟨a, _, h1, .inr h2, by assumption, rfl⟩
    · cases e
  · cases e
theorem ov_in (hu : X.A.units + 64 < cLine) : OpV X E (compareOp .In) (gIn false) := fun pins s σ O P H₀ H x y v u vv uu r Q I hd hs rx ry ev eu e q => by
  obtain ⟨a, ys, h1, h2, hdp, rfl⟩ := gIn_cases e
  obtain ⟨⟨as, ra⟩, la⟩ := rx.reads I ev h1
  rcases h2 with h2 | h2
  · obtain ⟨⟨bs, rb⟩, lb⟩ := ry.reads I eu h2
    unfold PyData.canLay0 at lb
    exact SeqAt.in_list_reads rb ra lb la (by have := Nat.min_le_right (PyData.depthAll ys) a.depth; lia) ⟨.bl _, H, I, rfl, q _ H (Same.refl H) (.bool _)⟩
  · obtain ⟨⟨bs, rb⟩, lb⟩ := ry.reads I eu h2
    unfold PyData.canLay0 at lb
    exact SeqAt.in_tuple_reads rb ra lb la (by have := Nat.min_le_right (PyData.depthAll ys) a.depth; lia) ⟨.bl _, H, I, rfl, q _ H (Same.refl H) (.bool _)⟩
noncomputable def gC (st : Bool) (x y : DV) : M DV := match x, y with
  | .d a, .d b => if a.depth ≤ 60 then bd (op (cD st a b)) fun k => rt (.d (.bool k)) else none
  | _, _ => none
theorem ov_cmp (st : Bool) (hu : X.A.units + 64 < cLine) : OpV X E (compareOp (cOp st)) (gC st) := fun pins s σ O P H₀ H x y v u vv uu r Q I hd hs rx ry ev eu e q => by
  unfold gC at e
  split at e
  · rename_i a b
    split at e
    · rename_i hdp
      cases hk : cD st a b with
      | none => rw [hk] at e; cases e
      | some k =>
        rw [hk] at e
        cases e
        obtain ⟨⟨as, ra⟩, la⟩ := rx.reads I ev (d := a) rfl
        obtain ⟨⟨bs, rb⟩, lb⟩ := ry.reads I eu (d := b) rfl
        have h := rcL_reads _ st a b X.A s vv uu as bs k (Nat.lt_succ_self _) ra rb la lb (by lia) hk X.prog X.w X.xe (EP X pins σ Q) ⟨.bl _, H, I, rfl, q _ H (Same.refl H) (.bool _)⟩
        cases st with
        | true => exact h
        | false => exact h
    · cases e
  · cases e
theorem ov_ltD (hu : X.A.units + 64 < cLine) : OpV X E (compareOp .Lt) (gC true) := ov_cmp true hu
theorem ov_leD (hu : X.A.units + 64 < cLine) : OpV X E (compareOp .LtE) (gC false) := ov_cmp false hu
noncomputable def gCat (x y : DV) : M DV := match asL x, asL y with
  | some xs, some ys => if xs.length + ys.length ≤ 1000000 then rt (.new (xs ++ ys)) else none
  | _, _ => none
theorem zjv {n : Nat} (h : n ≤ 1000000) : n ≤ sizeLine := Nat.le_trans h (by rw [sizeLine_eq]; decide)
theorem fresh_z {O P : List Addr} {H₀ H : Hp} {p : Addr} (hd : ∀ a, a ∈ P ++ O → ∃ o, H₀ a = some o) (hs : Same H₀ H) (hp : H p = none) : p ∉ P ++ O := fun h => by
  obtain ⟨o, e⟩ := hd p h
  rw [hs p o e] at hp; cases hp
theorem same_upd {H : Hp} {p : Addr} {o : HO} (hp : H p = none) : Same H (upd H p o) := fun b u e => by rw [zqq (zkx e hp)]; exact e
theorem kp_upd {Z : List Addr} {H : Hp} {p : Addr} {o : HO} (hp : H p = none) : Kp Z H (p :: Z) (upd H p o) := ⟨fun a u _ e => same_upd hp a u e, fun a ha => by
  rcases List.mem_cons.mp ha with e | e
  · subst e; exact .inr hp
  · exact .inl e⟩
theorem RE.made {O P : List Addr} {H₀ H : Hp} {p : Addr} {xs : List D} {vs : List V} (hs : Same H₀ H) (hp : H p = none) (l : RpL (P ++ O) H xs vs) : RE O P H₀ (upd H p (.lst vs)) (.new xs) (.ref p) :=
  ⟨p, vs, rfl, hs.free hp, zjj, l.kp (kp_upd hp)⟩
theorem madeT {O P : List Addr} {H₀ H : Hp} {p : Addr} {xs : List D} {vs : List V} (hd : ∀ a, a ∈ P ++ O → ∃ o, H₀ a = some o) (hs : Same H₀ H) (hp : H p = none) (l : RpL (P ++ O) H xs vs) : RE O P H₀ (upd H p (.tup vs)) (.d (.tuple xs)) (.ref p) :=
  .tup (fresh_z hd hs hp) zjj (l.kp (.same (same_upd hp)))
theorem gCat_cases {x y : DV} {r : Except Value DV} (e : gCat x y = some r) : ∃ xs ys, asL x = some xs ∧ asL y = some ys ∧ xs.length + ys.length ≤ 1000000 ∧ r = .ok (.new (xs ++ ys)) := by
  unfold gCat at e
  split at e
  · rename_i xs ys h1 h2
    split at e
    · cases e; exact ⟨xs, ys, h1, h2, by assumption, rfl⟩
    · cases e
  · cases e
theorem ov_cat : OpV X E (binaryOp .Add) gCat := OpV.rule op_cat fun O P H₀ H x y v u r Q hd hs rx ry e q => by
  obtain ⟨xs, ys, h1, h2, hz, rfl⟩ := gCat_cases e
  obtain ⟨a, vs, rfl, ha, la⟩ := rx.list h1
  obtain ⟨b, us, rfl, hb, lb⟩ := ry.list h2
  exact ⟨a, b, vs, us, rfl, rfl, ha, hb, zjv (by rw [← la.length, ← lb.length]; exact hz), fun p hp => q _ _ (same_upd hp) (RE.made hs hp (la.append lb))⟩
noncomputable def gRep (x y : DV) : M DV := match asL x, y with
  | some xs, .d (.int k) => if xs.length * k.toNat ≤ 1000000 ∧ -(2 ^ 63) ≤ k ∧ k < 2 ^ 63 then rt (.new (List.replicate k.toNat xs).flatten) else none
  | _, _ => none
theorem ov_rep : OpV X E (binaryOp .Mult) gRep := OpV.rule op_rep fun O P H₀ H x y v u r Q hd hs rx ry e q => by
  unfold gRep at e
  split at e
  · rename_i xs k h1
    split at e
    · rename_i hz
      cases e
      obtain ⟨a, vs, rfl, ha, la⟩ := rx.list h1
      cases ry
      exact ⟨a, k, vs, rfl, rfl, ha, hz.2.1, hz.2.2, zjv (by rw [← la.length]; exact hz.1), fun p hp => q _ _ (same_upd hp) (RE.made hs hp (la.rep _))⟩
    · cases e
  · cases e
noncomputable def gOr (g g' : DV → DV → M DV) (x y : DV) : M DV := match g x y with
  | none => g' x y
  | some r => some r
theorem OpV.or {f : Value → Value → Sem Value} {g g' : DV → DV → M DV} (h : OpV X E f g) (h' : OpV X E f g') : OpV X E f (gOr g g') := fun pins s σ O P H₀ H x y v u vv uu r Q I hd hs rx ry ev eu e q => by
  unfold gOr at e
  cases hg : g x y with
  | none => rw [hg] at e; exact h' pins s σ O P H₀ H x y v u vv uu r Q I hd hs rx ry ev eu e q
  | some r' => rw [hg] at e; cases e; exact h pins s σ O P H₀ H x y v u vv uu r Q I hd hs rx ry ev eu hg q
end
end L3
set_option Elab.async false
set_option linter.all false
set_option maxRecDepth 100000
set_option maxHeartbeats 4000000
set_option autoImplicit false
namespace L3
open PySem PySem.Spec L2
open PyProof.Rows hiding St
theorem bd_assoc {α β γ : Type} (m : M α) (f : α → M β) (g : β → M γ) : bd (bd m f) g = bd m fun a => bd (f a) g := by
  cases m with
  | none => rfl
  | some z => cases z <;> rfl
noncomputable def tru : DV → M Bool
  | .d (.bool b) => rt b
  | _ => none
@[simp] theorem tru_b (b : Bool) : tru (.d (.bool b)) = rt b := rfl
theorem tru_cases {x : DV} {r : Except Value Bool} (h : tru x = some r) : ∃ b, x = .d (.bool b) ∧ r = .ok b := by
  unfold tru at h
  split at h
  · rename_i b
    cases h; exact ⟨b, rfl, rfl⟩
  · cases h
section
variable {X : Cx} {E : XK} {a b c e : Expr} {pos : Pos} {fa fb fc f : DS → M DV} {ga gb : DS → M Bool}
theorem tru_end {O P : List Addr} {H₀ H : Hp} {x : DV} {v : V} {r : Except Value Bool} {Q : Bool → Hp → Prop} (rx : RE O P H₀ H x v) (h : tru x = some r) (q : FnB E H Q r) : ∃ k, v = .bl k ∧ Q k H := by
  obtain ⟨k, rfl, rfl⟩ := tru_cases h
  cases rx
  exact ⟨k, rfl, q H (Same.refl H)⟩
theorem pb_val (h : PX X E e f) (he : ∀ whole, isTrue e X.env whole = (do let v ← whole; standAt e.pos; holding [v] (truthy v)) := by intro _; rfl) : PB X E e (fun δ => bd (f δ) tru) :=
  PT.mono (pt_val h he) fun σ H Q q => tE_bdB (g := fun _ => tru) q fun O P δ x r v H1 rs rs1 s1 rx e' q' => tru_end rx e' q'
theorem t2B {g : DV → DV → M DV} {σ : St} {H : Hp} {Q : Bool → Hp → Prop} (h : tBo E (fun δ => bd (e2 g fa fb δ) tru) σ H Q) {t : V → V → Hp → Prop}
    (k : ∀ O P x y r v u H1, (∀ a, a ∈ P ++ O → ∃ o, H a = some o) → Same H H1 → RE O P H H1 x v → RE O P H H1 y u → bd (g x y) tru = some r → FnB E H1 Q r → t v u H1) :
    tE E fa σ H fun v H1 => tE E fb σ H1 fun u H2 => t v u H2 := by
  have h' : tBo E (fun δ => bd (fa δ) fun x => bd (bd (fb δ) fun y => g x y) tru) σ H Q := by
    obtain ⟨O, P, δ, r, rs, e, q⟩ := h
    exact ⟨O, P, δ, r, rs, (bd_assoc _ _ _).symm.trans e, q⟩
  refine tE_bdB (g := fun δ x => bd (bd (fb δ) fun y => g x y) tru) h' fun O P δ x r v H1 rs rs1 s1 rx e q => ?_
  rcases zze e with ⟨z, e1, e2⟩ | ⟨c, e1, e2⟩
  · rcases zze e1 with ⟨y, e3, e4⟩ | ⟨c, e3, e4⟩
    · exact ⟨O, P, δ, .ok y, rs1, e3, fun u H2 s2 ry => k O P x y r v u H2 rs.dom (s1.trans s2) (rx.on s2) (ry.from s1) (by rw [e4]; exact e2) (q.on s2)⟩
    · cases e4
  · rcases zze e1 with ⟨y, e3, e4⟩ | ⟨c', e3, e4⟩
    · exact ⟨O, P, δ, .ok y, rs1, e3, fun u H2 s2 ry => k O P x y r v u H2 rs.dom (s1.trans s2) (rx.on s2) (ry.from s1) (by rw [e4]; subst e2; rfl) (q.on s2)⟩
    · cases e4
      subst e2
      exact ⟨O, P, δ, .error c, rs1, e3, q⟩
theorem OpV.test {o : Value → Value → Sem Value} {g : DV → DV → M DV} (ho : OpV X E o g) {pins : List (Addr × Obj)} {s : Shared} {σ : St} {O P : List Addr} {H₀ H : Hp} {x y : DV} {v u : V} {vv uu : Value} {r : Except Value Bool} {Q : Bool → Hp → Prop}
    (I : Inv X pins σ H s) (hd : ∀ a, a ∈ P ++ O → ∃ o, H₀ a = some o) (hs : Same H₀ H) (rx : RE O P H₀ H x v) (ry : RE O P H₀ H y u) (ev : RelV v vv) (eu : RelV u uu) (e : bd (g x y) tru = some r) (q : FnB E H Q r) :
    wpAny (model X.prog X.w) X.A (o vv uu) (EP X pins σ fun z H2 => ∃ k, z = .bl k ∧ Q k H2) X.xe s := by
  rcases zze e with ⟨z, e1, e2⟩ | ⟨c, e1, e2⟩
  · refine ho pins s σ O P H₀ H x y v u vv uu (.ok z) _ I hd hs rx ry ev eu e1 fun w H2 s2 rz => tru_end rz e2 (q.on s2)
  · subst e2
    exact ho pins s σ O P H₀ H x y v u vv uu (.error c) _ I hd hs rx ry ev eu e1 q
theorem pb_cmp {o : CmpOp} {g : DV → DV → M DV} (ho : OpV X E (compareOp o) g) (ha : PX X E a fa) (hb : PX X E b fb) (hm : behindInMarks o b = false := by first | exact nomark _ | rfl) : PB X E (.Compare a [o] [b] pos) (fun δ => bd (e2 g fa fb δ) tru) := by
  intro pins s σ H Q I h
  refine wpAny_isTrue_Compare1 (bin ha hb I (t2B h (t := fun v u H1 => ∃ O P x y r, (∀ a, a ∈ P ++ O → ∃ o, H a = some o) ∧ Same H H1 ∧ RE O P H H1 x v ∧ RE O P H H1 y u ∧ bd (g x y) tru = some r ∧ FnB E H1 Q r) fun O P x y r v u H1 h1 h2 h3 h4 h5 h6 => ⟨O, P, x, y, r, h1, h2, h3, h4, h5, h6⟩)
    fun vv uu s2 v u H2 I2 rv ru ⟨O, P, x, y, r, h1, h2, h3, h4, h5, h6⟩ => thn (ho.test I2 h1 h2 h3 h4 rv ru h5 h6) fun d s3 ⟨z, H3, I3, r3, k, ez, q3⟩ => ?_) hm
  subst ez
  cases r3
  exact wpAny_truthy_bool ⟨H3, I3, q3⟩
noncomputable def eCh (g g' : DV → DV → M DV) (fa fb fc : DS → M DV) (δ : DS) : M DV := bd (fa δ) fun x => bd (fb δ) fun y => bd (bd (g x y) tru) fun k => if k = true then bd (fc δ) fun z => g' y z else rt (.d (.bool false))
theorem t3 {g g' : DV → DV → M DV} {σ : St} {H : Hp} {Q : VK} (h : tE E (eCh g g' fa fb fc) σ H Q) {t : V → V → Hp → Prop}
    (k : ∀ O P δ x y r v u H1, RS O P H σ δ → RS O P H1 σ δ → Same H H1 → RE O P H H1 x v → RE O P H H1 y u → (bd (bd (g x y) tru) fun k => if k = true then bd (fc δ) fun z => g' y z else rt (.d (.bool false))) = some r → Fn E O P H H1 Q r → t v u H1) :
    tE E fa σ H fun v H1 => tE E fb σ H1 fun u H2 => t v u H2 := by
  refine tE_bd (g := fun δ x => bd (fb δ) fun y => bd (bd (g x y) tru) fun k => if k = true then bd (fc δ) fun z => g' y z else rt (.d (.bool false))) h fun O P δ x r v H1 rs rs1 s1 rx e q => ?_
  rcases zze e with ⟨y, e1, e2⟩ | ⟨c, e1, e2⟩
  · exact ⟨O, P, δ, .ok y, rs1, e1, fun u H2 s2 ry => k O P δ x y r v u H2 rs (rs1.same s2) (s1.trans s2) (rx.on s2) (ry.from s1) e2 (q.on s2)⟩
  · subst e2
    exact ⟨O, P, δ, .error c, rs1, e1, q⟩
theorem px_chain {o o' : CmpOp} {g g' : DV → DV → M DV} (ho : OpV X E (compareOp o) g) (ho' : OpV X E (compareOp o') g') (ha : PX X E a fa) (hb : PX X E b fb) (hc : PX X E c fc)
    (hm : lastMarks [o, o'] [b, c] = false := by with_unfolding_all rfl) : PX X E (.Compare a [o, o'] [b, c] pos) (eCh g g' fa fb fc) := by
  intro pins s σ H Q I h
  refine Compare_chain (thn (ha pins s σ H _ I (t3 h (t := fun v u H1 => ∃ O P δ x y r, RS O P H σ δ ∧ RS O P H1 σ δ ∧ Same H H1 ∧ RE O P H H1 x v ∧ RE O P H H1 y u ∧ (bd (bd (g x y) tru) fun k => if k = true then bd (fc δ) fun z => g' y z else rt (.d (.bool false))) = some r ∧ Fn E O P H H1 Q r)
    fun O P δ x y r v u H1 h1 h2 h3 h4 h5 h6 h7 => ⟨O, P, δ, x, y, r, h1, h2, h3, h4, h5, h6, h7⟩)) fun vv s1 ⟨v, H1, I1, r1, q1⟩ => chain_link (thn (hb pins s1 σ H1 _ I1 q1) fun uu s2 ⟨u, H2, I2, r2, q2⟩ => ?_)) hm
  obtain ⟨O, P, δ, x, y, r, h1, h2, h3, h4, h5, h6, h7⟩ := q2
  rcases zze h6 with ⟨k, e1, e2⟩ | ⟨cx, e1, e2⟩
  · refine thn (ho.test (Q := fun k' H3 => k' = k ∧ Same H2 H3) I2 h1.dom h3 h4 h5 r1 r2 e1 fun H3 s3 => ⟨rfl, s3⟩) fun d s3 ⟨z, H3, I3, r3, k', ez, ek, s3'⟩ => ?_
    subst ez ek
    cases r3
    refine wpAny_truthy_bool ?_
    cases k' with
    | false =>
      cases e2
      exact ite_ff ⟨.bl false, H3, I3, rfl, h7 _ H3 s3' (.bool false)⟩
    | true =>
      simp only [if_true] at e2
      refine ite_tt (chain_last (thn (hc pins s3 σ H3 (fun w' H4 => ∃ zz, RE O P H H4 zz w' ∧ Same H3 H4 ∧ g' y zz = some r) I3 ?_) fun ww s4 ⟨w', H4, I4, r4, zz, q4, s4', e4⟩ => ?_))
      · rcases zze e2 with ⟨zz, e3, e4⟩ | ⟨cc, e3, e4⟩
        · exact ⟨O, P, δ, .ok zz, h2.same s3', e3, fun w' H4 s4 rz => ⟨zz, rz.from (h3.trans s3'), s4, e4⟩⟩
        · subst e4
          exact ⟨O, P, δ, .error cc, h2.same s3', e3, h7.on s3'⟩
      · exact ho' pins s4 σ O P H H4 y zz u w' uu ww r Q I4 h1.dom (h3.trans (s3'.trans s4')) (h5.on (s3'.trans s4')) q4 r2 r4 e4 (h7.on (s3'.trans s4'))
  · subst e2
    exact thn (ho.test (Q := fun _ _ => False) I2 h1.dom h3 h4 h5 r1 r2 e1 h7) fun d s3 ⟨z, H3, I3, r3, k', ez, q3⟩ => q3.elim
theorem pb_chain {o o' : CmpOp} {g g' : DV → DV → M DV} (ho : OpV X E (compareOp o) g) (ho' : OpV X E (compareOp o') g') (ha : PX X E a fa) (hb : PX X E b fb) (hc : PX X E c fc)
    (hm : lastMarks [o, o'] [b, c] = false := by with_unfolding_all rfl) : PB X E (.Compare a [o, o'] [b, c] pos) (fun δ => bd (eCh g g' fa fb fc δ) tru) := by
  intro pins s σ H Q I h
  have h' : tE E (eCh g g' fa fb fc) σ H (fun z H' => ∃ k, z = .bl k ∧ Q k H') := tE_bdB (g := fun _ => tru) h fun O P δ x r v H1 rs rs1 s1 rx e' q' => tru_end rx e' q'
  refine isTrue_chain (thn (ha pins s σ H _ I (t3 h' (t := fun v u H1 => ∃ O P δ x y r, RS O P H σ δ ∧ RS O P H1 σ δ ∧ Same H H1 ∧ RE O P H H1 x v ∧ RE O P H H1 y u ∧ (bd (bd (g x y) tru) fun k => if k = true then bd (fc δ) fun z => g' y z else rt (.d (.bool false))) = some r ∧ Fn E O P H H1 (fun z H' => ∃ k, z = .bl k ∧ Q k H') r)
    fun O P δ x y r v u H1 h1 h2 h3 h4 h5 h6 h7 => ⟨O, P, δ, x, y, r, h1, h2, h3, h4, h5, h6, h7⟩)) fun vv s1 ⟨v, H1, I1, r1, q1⟩ => test_link (thn (hb pins s1 σ H1 _ I1 q1) fun uu s2 ⟨u, H2, I2, r2, q2⟩ => ?_)) hm
  obtain ⟨O, P, δ, x, y, r, h1, h2, h3, h4, h5, h6, h7⟩ := q2
  rcases zze h6 with ⟨k, e1, e2⟩ | ⟨cx, e1, e2⟩
  · refine thn (ho.test (Q := fun k' H3 => k' = k ∧ Same H2 H3) I2 h1.dom h3 h4 h5 r1 r2 e1 fun H3 s3 => ⟨rfl, s3⟩) fun d s3 ⟨z, H3, I3, r3, k', ez, ek, s3'⟩ => ?_
    subst ez ek
    cases r3
    refine wpAny_truthy_bool ?_
    cases k' with
    | false =>
      cases e2
      obtain ⟨k2, ek2, q7⟩ := h7 _ H3 s3' (Rp.bool false)
      cases ek2
      exact ite_ff ⟨H3, I3, q7⟩
    | true =>
      simp only [if_true] at e2
      refine ite_tt (test_last (thn (hc pins s3 σ H3 (fun w' H4 => ∃ zz, RE O P H H4 zz w' ∧ Same H3 H4 ∧ g' y zz = some r) I3 ?_) fun ww s4 ⟨w', H4, I4, r4, zz, q4, s4', e4⟩ => ?_))
      · rcases zze e2 with ⟨zz, e3, e4⟩ | ⟨cc, e3, e4⟩
        · exact ⟨O, P, δ, .ok zz, h2.same s3', e3, fun w' H4 s4 rz => ⟨zz, rz.from (h3.trans s3'), s4, e4⟩⟩
        · subst e4
          exact ⟨O, P, δ, .error cc, h2.same s3', e3, h7.on s3'⟩
      · refine thn (ho' pins s4 σ O P H H4 y zz u w' uu ww r _ I4 h1.dom (h3.trans (s3'.trans s4')) (h5.on (s3'.trans s4')) q4 r2 r4 e4 (h7.on (s3'.trans s4'))) fun d' s5 ⟨z2, H5, I5, r5, k2, ek2, q5⟩ => ?_
        subst ek2
        cases r5
        exact wpAny_truthy_bool ⟨H5, I5, q5⟩
  · subst e2
    exact thn (ho.test (Q := fun _ _ => False) I2 h1.dom h3 h4 h5 r1 r2 e1 h7) fun d s3 ⟨z, H3, I3, r3, k', ez, q3⟩ => q3.elim
noncomputable def PWb (X : Cx) (E : XK) (e : Expr) (f : DS → M Bool) : Prop := PW X e (tBo E f)
theorem PWb.pb (h : PWb X E e ga) : PB X E e ga := PW.pt h
noncomputable def bAnd (ga gb : DS → M Bool) (δ : DS) : M Bool := bd (ga δ) fun k => if k = true then gb δ else rt false
noncomputable def bOr (ga gb : DS → M Bool) (δ : DS) : M Bool := bd (ga δ) fun k => if k = true then rt true else gb δ
noncomputable def bNot (ga : DS → M Bool) (δ : DS) : M Bool := bd (ga δ) fun k => rt (!k)
theorem PW.mono {t t' : TT} (h : PW X e t) (m : ∀ σ H Q, t' σ H Q → t σ H Q) : PW X e t' := fun wh pins s σ H Q I q => h wh pins s σ H Q I (m σ H Q q)
variable {rest : List Expr}
theorem pb_and1 (h : PB X E a ga) : PWb X E (.BoolOp .And [a] pos) ga := pw_and1 h
theorem pb_or1 (h : PB X E a ga) : PWb X E (.BoolOp .Or [a] pos) ga := pw_or1 h
theorem pb_and (ha : PB X E a ga) (hb : PWb X E (.BoolOp .And (b :: rest) pos) gb) : PWb X E (.BoolOp .And (a :: b :: rest) pos) (bAnd ga gb) :=
  PW.mono (pw_and ha hb) fun σ H Q q => tB_bdB (g := fun δ k => if k = true then gb δ else rt false) q fun O P δ k r H1 rs rs1 s1 e q => by
    cases k with
    | true => exact ⟨O, P, δ, r, rs1, e, q⟩
    | false => cases e; exact q H1 (Same.refl H1)
theorem pb_or (ha : PB X E a ga) (hb : PWb X E (.BoolOp .Or (b :: rest) pos) gb) : PWb X E (.BoolOp .Or (a :: b :: rest) pos) (bOr ga gb) :=
  PW.mono (pw_or ha hb) fun σ H Q q => tB_bdB (g := fun δ k => if k = true then rt true else gb δ) q fun O P δ k r H1 rs rs1 s1 e q => by
    cases k with
    | false => exact ⟨O, P, δ, r, rs1, e, q⟩
    | true => cases e; exact q H1 (Same.refl H1)
theorem pb_not (ha : PB X E a ga) : PB X E (.UnaryOp .Not a pos) (bNot ga) :=
  PT.mono (pt_not ha) fun σ H Q q => tB_bdB (g := fun δ k => rt (!k)) q fun O P δ k r H1 rs rs1 s1 e q => by
    cases e; exact q H1 (Same.refl H1)
noncomputable def eAnd (fa fb : DS → M DV) (δ : DS) : M DV := bd (bd (fa δ) tru) fun k => if k = true then fb δ else rt (.d (.bool false))
noncomputable def eOr (fa fb : DS → M DV) (δ : DS) : M DV := bd (bd (fa δ) tru) fun k => if k = true then rt (.d (.bool true)) else fb δ
noncomputable def eNot (fa : DS → M DV) (δ : DS) : M DV := bd (bd (fa δ) tru) fun k => rt (.d (.bool (!k)))
theorem t1 {g : DS → Bool → M DV} {σ : St} {H : Hp} {Q : VK} (h : tE E (fun δ => bd (bd (fa δ) tru) (g δ)) σ H Q) {t : VK}
    (k : ∀ O P δ k r H1, RS O P H1 σ δ → Same H H1 → g δ k = some r → Fn E O P H H1 Q r → t (.bl k) H1) : tE E fa σ H t := by
  obtain ⟨O, P, δ, r, rs, e, q⟩ := h
  rcases zze e with ⟨z, e1, e2⟩ | ⟨c, e1, e2⟩
  · rcases zze e1 with ⟨x, e3, e4⟩ | ⟨c, e3, e4⟩
    · refine ⟨O, P, δ, .ok x, rs, e3, fun v H1 s1 rx => ?_⟩
      obtain ⟨kk, rfl, ek⟩ := tru_cases e4
      cases ek
      cases rx
      exact k O P δ _ r H1 (rs.same s1) s1 e2 (q.on s1)
    · cases e4
  · subst e2
    rcases zze e1 with ⟨x, e3, e4⟩ | ⟨c', e3, e4⟩
    · obtain ⟨kk, _, ek⟩ := tru_cases e4
      cases ek
    · cases e4
      exact ⟨O, P, δ, .error c, rs, e3, q⟩
theorem px_one {o : BoolOp} (h : PX X E a fa) : PX X E (.BoolOp o [a] pos) fa := pe_one h
theorem fn_from {O P : List Addr} {H H1 : Hp} {Q : VK} {r : Except Value DV} (s1 : Same H H1) (q : Fn E O P H H1 Q r) : Fn E O P H1 H1 Q r := by
  cases r with
  | ok x => exact fun v H' s' rx => q v H' s' (rx.from s1)
  | error c => exact q
theorem px_and (ha : PX X E a fa) (hb : PX X E (.BoolOp .And (b :: rest) pos) fb) : PX X E (.BoolOp .And (a :: b :: rest) pos) (eAnd fa fb) :=
  PE.mono (pe_and ha hb) fun σ H Q q => t1 (g := fun δ k => if k = true then fb δ else rt (.d (.bool false))) q fun O P δ k r H1 rs1 s1 e q => by
    refine ⟨k, rfl, ?_⟩
    cases k with
    | true => exact iteT ⟨O, P, δ, r, rs1, e, fn_from s1 q⟩
    | false => cases e; exact iteF (q _ H1 (Same.refl H1) (.bool false))
theorem px_not (ha : PX X E a fa) : PX X E (.UnaryOp .Not a pos) (eNot fa) :=
  PE.mono (pe_not ha) fun σ H Q q => t1 (g := fun δ k => rt (.d (.bool (!k)))) q fun O P δ k r H1 rs1 s1 e q => by
    cases e
    exact ⟨k, rfl, q _ H1 (Same.refl H1) (.bool (!k))⟩
noncomputable def eIf (ga : DS → M Bool) (fa fb : DS → M DV) (δ : DS) : M DV := bd (ga δ) fun k => if k = true then fa δ else fb δ
theorem px_if (hc : PB X E c ga) (ha : PX X E a fa) (hb : PX X E b fb) : PX X E (.IfExp c a b pos) (eIf ga fa fb) :=
  PE.mono (pe_ifExp hc ha hb) fun σ H Q q => tB_bd (g := fun δ k => if k = true then fa δ else fb δ) q fun O P δ k r H1 rs rs1 s1 e q => by
    cases k with
    | true => exact iteT ⟨O, P, δ, r, rs1, e, fn_from s1 q⟩
    | false => exact iteF ⟨O, P, δ, r, rs1, e, fn_from s1 q⟩
noncomputable def eNeg (fa : DS → M DV) (δ : DS) : M DV := bd (fa δ) fun x => match x with
  | .d (.int i) => rt (.d (.int (-i)))
  | _ => none
theorem px_neg (ha : PX X E a fa) : PX X E (.UnaryOp .USub a pos) (eNeg fa) :=
  PE.mono (pe_un un_neg ha) fun σ H Q q => tE_bd (g := fun _ x => match x with | .d (.int i) => rt (.d (.int (-i))) | _ => none) q fun O P δ x r v H1 rs rs1 s1 rx e q => by
    split at e
    · rename_i i
      cases e
      cases rx
      exact ⟨i, rfl, q _ H1 (Same.refl H1) (.int (-i))⟩
    · cases e
end
end L3
set_option Elab.async false
set_option linter.all false
set_option maxRecDepth 100000
set_option maxHeartbeats 4000000
set_option autoImplicit false
namespace L3
open PySem PySem.Spec L2
open PyProof.Rows hiding St
section
variable {X : Cx} {E : XK} {a b c e o : Expr} {es : List Expr} {pos p : Pos} {fa fb fc f : DS → M DV} {fr : DS → M (List DV)}
theorem REs.on {O P : List Addr} {H H1 H2 : Hp} {xs : List DV} {vs : List V} (r : REs O P H H1 xs vs) (h : Same H1 H2) : REs O P H H2 xs vs := Paired.mapP r fun _ _ q => RE.on q h
theorem REs.from {O P : List Addr} {H H1 H2 : Hp} {xs : List DV} {vs : List V} (r : REs O P H1 H2 xs vs) (h : Same H H1) : REs O P H H2 xs vs := Paired.mapP r fun _ _ q => RE.from q h
noncomputable def aNil (_ : DS) : M (List DV) := rt []
noncomputable def zzz (fa : DS → M DV) (fr : DS → M (List DV)) (δ : DS) : M (List DV) := bd (fa δ) fun x => bd (fr δ) fun xs => rt (x :: xs)
theorem zzk : PAs X E [] aNil := PA.mono pa_nil fun σ H Q q => by
  obtain ⟨O, P, δ, r, rs, e, q⟩ := q
  cases e
  exact q [] H (Same.refl H) .nil
theorem zzq (ha : PX X E e fa) (hr : PAs X E es fr) (hs : starEach (e :: es) X.env = (false, eval e X.env) :: starEach es X.env := by rfl) : PAs X E (e :: es) (zzz fa fr) := PA.mono (pa_cons ha hr hs) fun σ H Q q => by
  obtain ⟨O, P, δ, r, rs, e, q⟩ := q
  rcases zze e with ⟨x, e1, e2⟩ | ⟨c, e1, e2⟩
  · refine ⟨O, P, δ, .ok x, rs, e1, fun v H1 s1 rx => ?_⟩
    rcases zze e2 with ⟨xs, e3, e4⟩ | ⟨c, e3, e4⟩
    · cases e4
      exact ⟨O, P, δ, .ok xs, rs.same s1, e3, fun vs H2 s2 rxs => q _ H2 (s1.trans s2) (.cons (rx.on s2) (rxs.from s1))⟩
    · subst e4
      exact ⟨O, P, δ, .error c, rs.same s1, e3, fun dx H' s' => q dx H' (s1.trans s')⟩
  · subst e2
    exact ⟨O, P, δ, .error c, rs, e1, q⟩
noncomputable def datas : List DV → Option (List D)
  | [] => some []
  | x :: r => match asD x, datas r with
    | some d, some ds => some (d :: ds)
    | _, _ => none
@[simp] theorem zzc : datas [] = some [] := rfl
theorem datas_cons (x : DV) (r : List DV) : datas (x :: r) = match asD x, datas r with | some d, some ds => some (d :: ds) | _, _ => none := rfl
@[simp] theorem zyk (x : D) (r : List DV) : datas (.d x :: r) = (datas r).map (x :: ·) := by
  rw [datas_cons, asD_d]
  cases datas r <;> rfl
@[simp] theorem zzd (xs : List D) (r : List DV) : datas (.new xs :: r) = (datas r).map (.list xs :: ·) := by
  rw [datas_cons, zxf]
  cases datas r <;> rfl
theorem REs.data {O P : List Addr} {H H' : Hp} (dom : ∀ a, a ∈ P ++ O → ∃ o, H a = some o) : ∀ {xs : List DV} {vs : List V} {ds : List D}, REs O P H H' xs vs → datas xs = some ds → RpL (P ++ O) H' ds vs
  | _, _, _, .nil, h => by cases h; exact .nil
  | _, _, _, .cons r t, h => by
    rw [datas_cons] at h
    split at h
    · rename_i d ds h1 h2
      cases h
      exact .cons (r.data dom h1) (REs.data dom t h2)
    · cases h
noncomputable def eTup (fr : DS → M (List DV)) (δ : DS) : M DV := bd (fr δ) fun xs => bd (op (datas xs)) fun ds => if ds.length ≤ 1000000 then rt (.d (.tuple ds)) else none
noncomputable def eLst (fr : DS → M (List DV)) (δ : DS) : M DV := bd (fr δ) fun xs => bd (op (datas xs)) fun ds => if ds.length ≤ 1000000 then rt (.new ds) else none
theorem tA_bd {g : DS → List DV → M DV} {σ : St} {H : Hp} {Q : VK} {t : List V → Hp → Prop} (h : tE E (fun δ => bd (fr δ) (g δ)) σ H Q)
    (k : ∀ O P δ xs r vs H1, RS O P H σ δ → RS O P H1 σ δ → Same H H1 → REs O P H H1 xs vs → g δ xs = some r → Fn E O P H H1 Q r → t vs H1) : tAr E fr σ H t := by
  obtain ⟨O, P, δ, r, rs, e, q⟩ := h
  rcases zze e with ⟨x, e1, e2⟩ | ⟨c, e1, e2⟩
  · exact ⟨O, P, δ, .ok x, rs, e1, fun v H1 s1 re => k O P δ x r v H1 rs (rs.same s1) s1 re e2 (q.on s1)⟩
  · subst e2
    exact ⟨O, P, δ, .error c, rs, e1, q⟩
theorem datas_end {xs : List DV} {h : List D → M DV} {r : Except Value DV} (e : bd (op (datas xs)) h = some r) : ∃ ds, datas xs = some ds ∧ h ds = some r := by
  cases hd : datas xs with
  | none => rw [hd] at e; cases e
  | some ds => rw [hd] at e; exact ⟨ds, rfl, e⟩
theorem px_tup {k : Nat} (h : PAs X E es fr) : PX X E (.Tuple es k pos) (eTup fr) := PE.mono (pe_tup h) fun σ H Q q => tA_bd (g := fun _ xs => bd (op (datas xs)) fun ds => if ds.length ≤ 1000000 then rt (.d (.tuple ds)) else none) q fun O P δ xs r vs H1 rs rs1 s1 rx e q => by
  obtain ⟨ds, hd, e⟩ := datas_end e
  split at e
  · rename_i hz
    cases e
    have l := REs.data rs.dom rx hd
    exact ⟨zjv (by rw [← l.length]; exact hz), fun p hp => q _ _ (same_upd hp) (madeT rs.dom s1 hp l)⟩
  · cases e
theorem px_lst (h : PAs X E es fr) : PX X E (.List es pos) (eLst fr) := PE.mono (pe_lst h) fun σ H Q q => tA_bd (g := fun _ xs => bd (op (datas xs)) fun ds => if ds.length ≤ 1000000 then rt (.new ds) else none) q fun O P δ xs r vs H1 rs rs1 s1 rx e q => by
  obtain ⟨ds, hd, e⟩ := datas_end e
  split at e
  · rename_i hz
    cases e
    have l := REs.data rs.dom rx hd
    exact ⟨zjv (by rw [← l.length]; exact hz), fun p hp => q _ _ (same_upd hp) (RE.made s1 hp l)⟩
  · cases e
noncomputable def gIx (x y : DV) : M DV := match x, y with
  | .d (.tuple xs), .d (.int i) => bd (op (atI xs i)) fun z => rt (.d z)
  | .d (.list xs), .d (.int i) => bd (op (atI xs i)) fun z => rt (.d z)
  | .own xs, .d (.int i) => bd (op (atI xs i)) fun z => rt (.d z)
  | .new xs, .d (.int i) => bd (op (atI xs i)) fun z => rt (.d z)
  | _, _ => none
theorem RpL.atI {Z : List Addr} {H : Hp} {ds : List D} {vs : List V} {i : Int} {d : D} (l : RpL Z H ds vs) (h : L2.atI ds i = some d) : ∃ v, L2.atI vs i = some v ∧ Rp Z H d v := by
  unfold L2.atI at h ⊢
  rw [← l.length]
  cases e : ixN ds.length i with
  | none => rw [e] at h; cases h
  | some j =>
    rw [e] at h
    obtain ⟨v, e1, r⟩ := l.get (i := j) h
    exact ⟨v, e1, r⟩
theorem atI_map {α β : Type} (g : α → β) (xs : List α) (i : Int) : atI (xs.map g) i = (atI xs i).map g := by
  unfold atI
  rw [List.length_map]
  cases ixN xs.length i with
  | none => rfl
  | some j => simp
theorem bd_op {α β : Type} {o : Option α} {g : α → M β} {r : Except Value β} (h : bd (op o) g = some r) : ∃ x, o = some x ∧ g x = some r := by
  cases o with
  | none => cases h
  | some x => exact ⟨x, rfl, h⟩
theorem px_ix (ha : PX X E a fa) (hb : PX X E b fb) (hs : PlainIx b := by intro _ _; rfl) : PX X E (.Subscript a b pos) (e2 gIx fa fb) := PE.mono (pe_ix ix_seq ha hb hs) fun σ H Q q => t2 q fun O P x y r v u H1 dom s1 rx ry e q => by
  unfold gIx at e
  split at e
  · obtain ⟨z, e1, e2⟩ := bd_op e
    cases e2
    cases ry
    have rx' : Rp (P ++ O) H1 _ v := rx
    cases rx' with
    | tup hz ha l =>
      obtain ⟨w, e3, rw3⟩ := l.atI e1
      exact .inr (.inl ⟨_, _, _, w, rfl, rfl, SqT.of ha, e3, q w H1 (Same.refl H1) rw3⟩)
  · obtain ⟨z, e1, e2⟩ := bd_op e
    cases e2
    cases ry
    have rx' : Rp (P ++ O) H1 _ v := rx
    cases rx' with
    | lst hz ha l =>
      obtain ⟨w, e3, rw3⟩ := l.atI e1
      exact .inl ⟨_, _, _, w, rfl, rfl, SqL.of ha, e3, q w H1 (Same.refl H1) rw3⟩
  · obtain ⟨z, e1, e2⟩ := bd_op e
    cases e2
    cases ry
    obtain ⟨a, vs, rfl, hP, ha, l⟩ := rx
    obtain ⟨w, e3, rw3⟩ := l.atI e1
    exact .inl ⟨_, _, _, w, rfl, rfl, SqL.of ha, e3, q w H1 (Same.refl H1) rw3⟩
  · obtain ⟨z, e1, e2⟩ := bd_op e
    cases e2
    cases ry
    obtain ⟨a, vs, rfl, hn, ha, l⟩ := rx
    obtain ⟨w, e3, rw3⟩ := l.atI e1
    exact .inl ⟨_, _, _, w, rfl, rfl, SqL.of ha, e3, q w H1 (Same.refl H1) (rw3.kp (.sub fun b hb => List.mem_cons_of_mem _ hb))⟩
  · cases e
open Classical in
noncomputable def gIxS (K : PySem.W.Frag) (x y : DV) : M DV := match x, y with
  | .scr K' ns, .d (.int i) => if K' = K then bd (op (atI ns i)) fun n => rt (.d (.int n)) else none
  | _, _ => none
theorem RE.scrSq {O P : List Addr} {H₀ H : Hp} {K : PySem.W.Frag} {ns : List Int} {v : V} (r : RE O P H₀ H (.scr K ns) v) : ∃ a, v = .ref a ∧ SqL K H a (ns.map V.int) := by
  obtain ⟨a, ev, hz⟩ := r
  exact ⟨a, ev, hz.imp (fun z => z.2) fun z => z⟩
theorem px_ixS (ha : PX X E a fa) (hb : PX X E b fb) (hs : PlainIx b := by intro _ _; rfl) : PX X E (.Subscript a b pos) (e2 (gIxS X.K) fa fb) := PE.mono (pe_ix ix_seq ha hb hs) fun σ H Q q => t2 q fun O P x y r v u H1 dom s1 rx ry e q => by
  unfold gIxS at e
  split at e
  · split at e
    · rename_i hK
      subst hK
      obtain ⟨z, e1, e2⟩ := bd_op e
      cases e2
      cases ry
      obtain ⟨a, rfl, ha⟩ := rx.scrSq
      exact .inl ⟨_, _, _, .int z, rfl, rfl, ha, by rw [atI_map, e1]; rfl, q _ H1 (Same.refl H1) (.int z)⟩
    · cases e
  · cases e
noncomputable def asI : DV → M Int
  | .d (.int i) => rt i
  | _ => none
@[simp] theorem asI_d (i : Int) : asI (.d (.int i)) = rt i := rfl
noncomputable def gFld (C : Addr) (n : Str) (x : DV) : M DV := match x with
  | .ob C' fs => if C' = C then bd (op (fs.lookup n)) fun d => rt (.d d) else none
  | _ => none
noncomputable def eFld (C : Addr) (n : Str) (fa : DS → M DV) (δ : DS) : M DV := bd (fa δ) (gFld C n)
theorem FsR.look {Z : List Addr} {H : Hp} {n : Str} {d : D} : ∀ {fs : List (Str × D)} {gs : List (Str × V)}, FsR Z H fs gs → fs.lookup n = some d → ∃ v, gs.lookup n = some v ∧ Rp Z H d v
  | _, _, .nil, h => by simp at h
  | (k, x) :: fs, (k', y) :: gs, .cons ⟨ek, r⟩ t, h => by
    have ek' : k = k' := ek
    subst ek'
    by_cases hn : n = k
    · subst hn
      simp only [List.lookup_cons, beq_self_eq_true] at h ⊢
      cases h
      exact ⟨_, rfl, r⟩
    · have hb : (n == k) = false := by simpa using hn
      simp only [List.lookup_cons, hb] at h ⊢
      exact FsR.look t h
theorem px_fld {C : Addr} {n : Str} (ha : PX X E a fa) (hc : Cls X.K C) (hn : NoAttr X.K C n) (hb : attributeBase a n X.env (eval a X.env) = eval a X.env := by rfl) : PX X E (.Attribute a n pos) (eFld C n fa) := PE.mono (pe_fld ha hb) fun σ H Q q =>
  tE_bd (g := fun _ => gFld C n) q fun O P δ x r v H1 rs rs1 s1 rx e q => by
    unfold gFld at e
    split at e
    · split at e
      · rename_i hC
        subst hC
        obtain ⟨d, e1, e2⟩ := bd_op e
        cases e2
        obtain ⟨a, dx, gs, rfl, hz, ha, hf⟩ := rx
        obtain ⟨w, e3, rw3⟩ := FsR.look hf e1
        exact ⟨a, _, dx, gs, w, rfl, ha, hc, hn, e3, q w H1 (Same.refl H1) rw3⟩
      · cases e
    · cases e
noncomputable def CallV (X : Cx) (E : XK) (f : Value) (g : List DV → M DV) : Prop :=
  ∀ (pins : List (Addr × Obj)) (s : Shared) (σ : St) (O P : List Addr) (H₀ H : Hp) (xs : List DV) (vs : List V) (us : List Value) (r : Except Value DV) (Q : VK), Inv X pins σ H s → (∀ a, a ∈ P ++ O → ∃ o, H₀ a = some o) → Same H₀ H →
    REs O P H₀ H xs vs → Vals vs us → g xs = some r → Fn E O P H₀ H Q r → wpAny (model X.prog X.w) X.A (call f us) (EP X pins σ Q) X.xe s
noncomputable def rCallV (E : XK) (g : List DV → M DV) (vs : List V) (H : Hp) (Q : VK) : Prop := ∃ O P H₀ xs r, (∀ a, a ∈ P ++ O → ∃ o, H₀ a = some o) ∧ Same H₀ H ∧ REs O P H₀ H xs vs ∧ g xs = some r ∧ Fn E O P H₀ H Q r
theorem CallV.rule {f : Value} {g : List DV → M DV} (h : CallV X E f g) : CallR X f (rCallV E g) := fun pins s σ H vs us Q I rv ⟨O, P, H₀, xs, r, h1, h2, h3, h4, h5⟩ => h pins s σ O P H₀ H xs vs us r Q I h1 h2 h3 rv h4 h5
theorem CallV.of {f : Value} {g : List DV → M DV} {R : List V → Hp → VK → Prop} (hc : CallR X f R)
    (h : ∀ (O P : List Addr) (H₀ H : Hp) (xs : List DV) (vs : List V) (r : Except Value DV) (Q : VK), (∀ a, a ∈ P ++ O → ∃ o, H₀ a = some o) → Same H₀ H → REs O P H₀ H xs vs → g xs = some r → Fn E O P H₀ H Q r → R vs H Q) : CallV X E f g :=
  fun pins s σ O P H₀ H xs vs us r Q I h1 h2 h3 rv h4 h5 => hc pins s σ H vs us Q I rv (h O P H₀ H xs vs r Q h1 h2 h3 h4 h5)
noncomputable def eCb (g : List DV → M DV) (fr : DS → M (List DV)) (δ : DS) : M DV := bd (fr δ) g
theorem cb_end {g : List DV → M DV} {σ : St} {H : Hp} {Q : VK} (q : tE E (eCb g fr) σ H Q) : tAr E fr σ H fun vs H1 => rCallV E g vs H1 Q :=
  tA_bd (g := fun _ => g) q fun O P δ xs r vs H1 rs rs1 s1 rx e q => ⟨O, P, H, xs, r, rs.dom, s1, rx, e, q⟩
theorem zkz {x : Str} {id : String} {g : List DV → M DV} (hc : CallV X E (.builtin id) g) (hg : Gl X x) (hm : X.mg x = none) (hv : bootBuiltins x = some (.builtin id)) (ha : PAs X E (e :: es) fr) (hn : x ≠ "__name__" := by decide) (hdb : (x == ("__debug__" : Str)) = false := by decide)
    (he : starEach (e :: es) X.env = (false, eval e X.env) :: starEach es X.env := by rfl) (hpl : (backTo pos (starEach es X.env)).any (·.1) = false := by rfl) : PX X E (.Call (.Name x p) (e :: es) [] pos) (eCb g fr) :=
  PE.mono (pe_callB hc.rule hg hm hv ha hn hdb he hpl) fun σ H Q q => cb_end q
theorem px_callTy {x : Str} {T : String} {g : List DV → M DV} (hc : CallV X E (.type T) g) (hg : Gl X x) (hm : X.mg x = none) (hv : bootBuiltins x = some (.type T)) (ha : PAs X E (e :: es) fr) (hn : x ≠ "__name__" := by decide) (hdb : (x == ("__debug__" : Str)) = false := by decide)
    (he : starEach (e :: es) X.env = (false, eval e X.env) :: starEach es X.env := by rfl) (hpl : (backTo pos (starEach es X.env)).any (·.1) = false := by rfl) : PX X E (.Call (.Name x p) (e :: es) [] pos) (eCb g fr) :=
  PE.mono (pe_callTy hc.rule hg hm hv ha hn hdb he hpl) fun σ H Q q => cb_end q
end
end L3
set_option Elab.async false
set_option linter.all false
set_option maxRecDepth 100000
set_option maxHeartbeats 4000000
set_option autoImplicit false
namespace L3
open PySem PySem.Spec L2
open PyProof.Rows hiding St
noncomputable def Sub (δ δ' : DS) : Prop := δ.length = δ'.length ∧ ∀ (i : Nat) (x : DV), δ[i]? = some (some x) → δ'[i]? = some (some x)
theorem Sub.refl (δ : DS) : Sub δ δ := ⟨rfl, fun _ _ h => h⟩
theorem Sub.trans {δ δ1 δ2 : DS} (a : Sub δ δ1) (b : Sub δ1 δ2) : Sub δ δ2 := ⟨a.1.trans b.1, fun i x h => b.2 i x (a.2 i x h)⟩
theorem sub_set {δ : DS} {i : Nat} {y : Option DV} (h : δ[i]? = some none ∨ δ[i]? = none) : Sub δ (δ.set i y) := ⟨by simp, fun j x e => by
  by_cases hj : i = j
  · subst hj
    rcases h with h | h <;> (rw [h] at e; cases e)
  · rw [List.getElem?_set_ne hj]; exact e⟩
section
variable {O P : List Addr} {H : Hp} {σ : St} {δ δ' : DS}
theorem RS.forget (r : RS O P H σ δ') (h : Sub δ δ') : RS O P H σ δ :=
  ⟨r.len.trans h.1.symm, r.dom, r.apart, fun i x e => r.at' i x (h.2 i x e), fun i j x y v w a e1 e2 => r.one i j x y v w a (h.2 i _ e1) (h.2 j _ e2)⟩
theorem RS.set (r : RS O P H σ δ) {i : Nat} {x : DV} {v : V} (rx : RE O P H H x v) (h1 : ∀ xs, x ≠ .new xs) (h2 : ownq x = false) : RS O P H (σ.set i (some v)) (δ.set i (some x)) := by
  refine ⟨by simp [r.len], r.dom, r.apart, fun j y e => ?_, fun j k y z v1 v2 c e1 e2 e3 e4 o1 o2 => ?_⟩
  · by_cases hj : i = j
    · subst hj
      by_cases hi : i < δ.length
      · rw [List.getElem?_set_self hi] at e
        cases e
        exact ⟨v, by rw [List.getElem?_set_self (by rw [r.len]; exact hi)], h1, rx⟩
      · rw [List.getElem?_eq_none (by simpa using hi)] at e; cases e
    · rw [List.getElem?_set_ne hj] at e
      obtain ⟨w, e1, e2, e3⟩ := r.at' j y e
      exact ⟨w, by rw [List.getElem?_set_ne hj]; exact e1, e2, e3⟩
  · have nj : ∀ (j : Nat) (y : DV), (δ.set i (some x))[j]? = some (some y) → ownq y = true → i ≠ j ∧ δ[j]? = some (some y) := fun j y e ho => by
      by_cases hj : i = j
      · subst hj
        by_cases hi : i < δ.length
        · rw [List.getElem?_set_self hi] at e
          cases e
          rw [h2] at ho; cases ho
        · rw [List.getElem?_eq_none (by simpa using hi)] at e; cases e
      · exact ⟨hj, by rw [List.getElem?_set_ne hj] at e; exact e⟩
    obtain ⟨n1, d1⟩ := nj j y e1 o1.q
    obtain ⟨n2, d2⟩ := nj k z e2 o2.q
    rw [List.getElem?_set_ne n1] at e3
    rw [List.getElem?_set_ne n2] at e4
    exact r.one j k y z v1 v2 c d1 d2 e3 e4 o1 o2
theorem RS.ownG {H0 : Hp} (r : RS O P H0 σ δ) (hs : Same H0 H) {i : Nat} {x : DV} {v : V} {a : Addr} {u : HO} (hn : H0 a = none) (ha : H a = some u) (hx : ∀ xs, x ≠ .new xs) (rx : RE O (a :: P) H H x v) (hx1 : ∀ b, OwA H x v b → b = a) : RS O (a :: P) H (σ.set i (some v)) (δ.set i (some x)) := by
  have fz : a ∉ P ++ O := fun h => by
    obtain ⟨o, e⟩ := r.dom a h
    rw [hn] at e; cases e
  have k : Kp (P ++ O) H0 (a :: P ++ O) H := ⟨fun b o _ e => hs b o e, fun b hb => by
    rcases List.mem_cons.mp hb with e | e
    · exact .inr (e ▸ hn)
    · exact .inl e⟩
  refine ⟨by simp [r.len], fun b hb => ?_, fun b hb hO => ?_, fun j y e => ?_, fun j m y z v1 v2 c e1 e2 e3 e4 o1 o2 => ?_⟩
  · rcases List.mem_cons.mp hb with e | e
    · exact ⟨_, e ▸ ha⟩
    · obtain ⟨o, q⟩ := r.dom b e
      exact ⟨o, hs b o q⟩
  · rcases List.mem_cons.mp hb with e | e
    · exact fz (List.mem_append_right _ (e ▸ hO))
    · exact r.apart b e hO
  · by_cases hj : i = j
    · subst hj
      by_cases hi : i < δ.length
      · rw [List.getElem?_set_self hi] at e
        cases e
        exact ⟨v, by rw [List.getElem?_set_self (by rw [r.len]; exact hi)], hx, rx⟩
      · rw [List.getElem?_eq_none (by simpa using hi)] at e; cases e
    · rw [List.getElem?_set_ne hj] at e
      obtain ⟨w, e1, e2, e3⟩ := r.at' j y e
      refine ⟨w, by rw [List.getElem?_set_ne hj]; exact e1, e2, ?_⟩
      cases y with
      | d y => exact Rp.kp k e3
      | ob C fs => exact ObR.kp k e3
      | tbl kvs => exact TbR.kp k e3
      | ex q => exact e3
      | tpo p xs q => exact TpR.kp k (fun b u hp hb => ⟨List.mem_cons_of_mem _ hp, hs b u hb⟩) e3
      | nwt p xs q => exact (NtR.no e3).elim
      | own ys =>
        obtain ⟨b, us, eb, hP, hb, hl⟩ := e3
        exact ⟨b, us, eb, List.mem_cons_of_mem _ hP, hs b _ hb, hl.kp k⟩
      | new ys => exact absurd rfl (e2 ys)
      | scr K ns =>
        obtain ⟨b, eb, ⟨hz, hb⟩ | hk⟩ := e3
        · refine ⟨b, eb, .inl ⟨fun h => ?_, Same.rd hs hb⟩⟩
          rcases List.mem_cons.mp h with z | z
          · rcases hb with hb | ⟨ob, hb⟩ <;> (rw [z, hn] at hb; cases hb)
          · exact hz z
        · exact ⟨b, eb, .inr hk⟩
  ·
    have old : ∀ (j : Nat) (y : DV) (w : V), δ[j]? = some (some y) → σ[j]? = some (some w) → OwA H y w c → OwA H0 y w c ∧ c ∈ P := fun j y w e q o => by
      obtain ⟨w', e1, _, r1⟩ := r.at' j _ e
      rw [q] at e1
      cases e1
      have := o.old (fun b o _ q => hs b o q) r1
      exact ⟨this, this.new r1⟩
    by_cases hj : i = j
    · by_cases hm : i = m
      · exact hj.symm.trans hm
      · subst hj
        by_cases hi : i < δ.length
        · rw [List.getElem?_set_self hi] at e1
          cases e1
          rw [List.getElem?_set_self (by rw [r.len]; exact hi)] at e3
          cases e3
          rw [List.getElem?_set_ne hm] at e2 e4
          have hc := hx1 c o1
          exact absurd (List.mem_append_left _ (hc ▸ (old m z v2 e2 e4 o2).2)) fz
        · rw [List.getElem?_eq_none (by simpa using hi)] at e1; cases e1
    · by_cases hm : i = m
      · subst hm
        by_cases hi : i < δ.length
        · rw [List.getElem?_set_self hi] at e2
          cases e2
          rw [List.getElem?_set_self (by rw [r.len]; exact hi)] at e4
          cases e4
          rw [List.getElem?_set_ne hj] at e1 e3
          have hc := hx1 c o2
          exact absurd (List.mem_append_left _ (hc ▸ (old j y v1 e1 e3 o1).2)) fz
        · rw [List.getElem?_eq_none (by simpa using hi)] at e2; cases e2
      · rw [List.getElem?_set_ne hj] at e1 e3
        rw [List.getElem?_set_ne hm] at e2 e4
        exact r.one j m y z v1 v2 c e1 e2 e3 e4 (old j y v1 e1 e3 o1).1 (old m z v2 e2 e4 o2).1
theorem RS.own {H0 : Hp} (r : RS O P H0 σ δ) (hs : Same H0 H) {i : Nat} {xs : List D} {v : V} (rx : RE O P H0 H (.new xs) v) : ∃ a, H0 a = none ∧ RS O (a :: P) H (σ.set i (some v)) (δ.set i (some (.own xs))) := by
  obtain ⟨a, vs, rfl, hn, ha, l⟩ := rx
  exact ⟨a, hn, r.ownG hs hn ha (fun _ => nofun) ⟨a, vs, rfl, List.mem_cons_self, ha, l⟩ fun b h => by
    have h' : V.ref a = .ref b := h
    cases h'; rfl⟩
theorem RS.ownT {H0 : Hp} (r : RS O P H0 σ δ) (hs : Same H0 H) {i : Nat} {p xs q : List D} {v : V} (rx : RE O P H0 H (.nwt p xs q) v) : ∃ a, H0 a = none ∧ RS O (a :: P) H (σ.set i (some v)) (δ.set i (some (.tpo p xs q))) := by
  obtain ⟨t, a, ps, vs, qs, rfl, hz, ht, hn, ha, l1, l2, l3⟩ := rx
  refine ⟨a, hn, r.ownG hs hn ha (fun _ => nofun) ⟨t, a, ps, vs, qs, rfl, hz, ht, List.mem_cons_self, ha, l1, l2, l3⟩ fun b h => ?_⟩
  obtain ⟨t', us, e', ht', hu⟩ := h
  cases e'
  rw [ht] at ht'
  cases ht'
  rw [l1.length, List.getElem?_append_right (Nat.le_refl _), Nat.sub_self] at hu
  cases hu
  rfl
end
noncomputable def TgV (g : TG) (sf : D → DS → Option DS) : Prop := ∀ (O P : List Addr) (H : Hp) (σ : St) (δ δ' : DS) (d : D) (v : V) (Q : St → Hp → Prop), RS O P H σ δ → Rp (P ++ O) H d v → sf d δ = some δ' → (∀ σ', RS O P H σ' δ' → Q σ' H) → g v σ H Q
noncomputable def zjq (i : Nat) (d : D) (δ : DS) : Option DS := some (δ.set i (some (.d d)))
theorem zjk (i : Nat) : TgV (gName i) (zjq i) := fun O P H σ δ δ' d v Q r rd e h => by
  cases e
  exact h _ (r.set (x := .d d) rd (fun _ => nofun) rfl)
noncomputable def sNil (ds : List D) (δ : DS) : Option DS := match ds with
  | [] => some δ
  | _ => none
noncomputable def sCons (sf : D → DS → Option DS) (st : List D → DS → Option DS) (ds : List D) (δ : DS) : Option DS := match ds with
  | [] => none
  | d :: r => match sf d δ with
    | some δ' => st r δ'
    | none => none
noncomputable def sTup (n : Nat) (st : List D → DS → Option DS) (d : D) (δ : DS) : Option DS := match d with
  | .tuple ds => if ds.length = n then st ds δ else none
  | _ => none
noncomputable def TgVs (g : TGs) (sf : List D → DS → Option DS) : Prop := ∀ (O P : List Addr) (H : Hp) (σ : St) (δ δ' : DS) (ds : List D) (vs : List V) (Q : St → Hp → Prop), RS O P H σ δ → RpL (P ++ O) H ds vs → sf ds δ = some δ' → (∀ σ', RS O P H σ' δ' → Q σ' H) → g vs σ H Q
theorem tg_nil : TgVs gNil sNil := fun O P H σ δ δ' ds vs Q r rd e h => by
  cases rd with
  | nil => cases e; exact ⟨rfl, h σ r⟩
  | cons _ _ => cases e
theorem tg_cons {g : TG} {sf : D → DS → Option DS} {gs : TGs} {st : List D → DS → Option DS} (h1 : TgV g sf) (h2 : TgVs gs st) : TgVs (gCons g gs) (sCons sf st) := fun O P H σ δ δ' ds vs Q r rd e h => by
  cases rd with
  | nil => cases e
  | cons r1 rr =>
    unfold sCons at e
    simp only at e
    split at e
    · rename_i δ1 e1
      exact ⟨_, _, rfl, h1 O P H σ δ δ1 _ _ _ r r1 e1 fun σ1 rs1 => h2 O P H σ1 δ1 δ' _ _ Q rs1 rr e h⟩
    · cases e
theorem tg_tup {K : PySem.W.Frag} {n : Nat} {gs : TGs} {st : List D → DS → Option DS} (h : TgVs gs st) : TgV (gTup K n gs) (sTup n st) := fun O P H σ δ δ' d v Q r rd e hq => by
  unfold sTup at e
  split at e
  · split at e
    · rename_i hn
      cases rd with
      | tup hz ha l => exact ⟨_, _, rfl, SqT.of ha, by rw [← l.length]; exact hn, h O P H σ δ δ' _ _ Q r l e hq⟩
    · cases e
  · cases e
noncomputable def sp0 (n : Nat) (fm : List DV → M DV) : Sp := fun vs H Q _ => vs.length = n ∧ ∃ O xs x, (∀ a, a ∈ O → ∃ o, H a = some o) ∧ REs O [] H H xs vs ∧ fm xs = some (.ok x) ∧ ∀ v H', Same H H' → RE O [] H H' x v → Q v H'
noncomputable def args : List DV → Option (List DV)
  | [] => some []
  | x :: r => match asA x, args r with
    | some y, some ys => some (y :: ys)
    | _, _ => none
@[simp] theorem args_nil : args [] = some [] := rfl
theorem args_cons (x : DV) (r : List DV) : args (x :: r) = match asA x, args r with | some y, some ys => some (y :: ys) | _, _ => none := rfl
@[simp] theorem zqd (x : D) (r : List DV) : args (.d x :: r) = (args r).map (.d x :: ·) := by
  rw [args_cons, asA_d]; cases args r <;> rfl
@[simp] theorem zxe (C : Addr) (fs : List (Str × D)) (r : List DV) : args (.ob C fs :: r) = (args r).map (.ob C fs :: ·) := by
  rw [args_cons, asA_ob]; cases args r <;> rfl
@[simp] theorem zxk (xs : List D) (r : List DV) : args (.new xs :: r) = (args r).map (.d (.list xs) :: ·) := by
  rw [args_cons, asA_new]; cases args r <;> rfl
@[simp] theorem zxq (K : PySem.W.Frag) (ns : List Int) (r : List DV) : args (.scr K ns :: r) = (args r).map (.scr K ns :: ·) := by
  rw [args_cons, asA_scr]; cases args r <;> rfl
theorem RE.hand {O P : List Addr} {H₀ H : Hp} {x y : DV} {v : V} (dom : ∀ a, a ∈ P ++ O → ∃ o, H₀ a = some o) (hs : Same H₀ H) (r : RE O P H₀ H x v) (h : asA x = some y) : RE (P ++ O) [] H H y v := by
  cases x with
  | d z => cases h; exact r
  | ob C fs => cases h; exact r
  | tbl kvs => cases h; exact r
  | ex q => cases h; exact r
  | tpo p xs q => cases h
  | nwt p xs q => cases h
  | own xs => cases h
  | new xs => cases h; exact new_data dom r
  | scr K ns => cases h; exact r
theorem REs.hand {O P : List Addr} {H₀ H : Hp} (dom : ∀ a, a ∈ P ++ O → ∃ o, H₀ a = some o) (hs : Same H₀ H) : ∀ {xs ys : List DV} {vs : List V}, REs O P H₀ H xs vs → args xs = some ys → REs (P ++ O) [] H H ys vs
  | _, _, _, .nil, h => by cases h; exact .nil
  | _, _, _, .cons r t, h => by
    rw [args_cons] at h
    split at h
    · rename_i y ys h1 h2
      cases h
      exact .cons (r.hand dom hs h1) (REs.hand dom hs t h2)
    · cases h
theorem RE.back {O P : List Addr} {H₀ H H' : Hp} {x : DV} {v : V} (hs : Same H₀ H) (r : RE (P ++ O) [] H H' x v) : RE O P H₀ H' x v := by
  cases x with
  | d z => exact r
  | ob C fs => exact r
  | tbl kvs => exact r
  | ex q => exact r
  | tpo p xs q =>
    obtain ⟨t, a, ps, vs, qs, e, hz, ht, hP, _⟩ := r
    cases hP
  | nwt p xs q =>
    obtain ⟨t, a, ps, vs, qs, e, hz, ht, hn, ha, ll⟩ := r
    exact ⟨t, a, ps, vs, qs, e, hz, ht, hs.free hn, ha, ll⟩
  | own xs =>
    obtain ⟨a, vs, e, hP, _⟩ := r
    cases hP
  | new xs =>
    obtain ⟨a, vs, e, hn, ha, l⟩ := r
    exact ⟨a, vs, e, hs.free hn, ha, l⟩
  | scr K ns => exact r
noncomputable def okO {α : Type} (m : M α) : M α := match m with
  | some (.ok x) => some (.ok x)
  | _ => none
@[simp] theorem zqc {α : Type} (x : α) : okO (some (.ok x) : M α) = some (.ok x) := rfl
@[simp] theorem zqa {α : Type} (x : α) : okO (rt x) = rt x := rfl
noncomputable def zxg (n : Nat) (fm : List DV → M DV) (xs : List DV) : M DV := bd (op (args xs)) fun ys => if ys.length = n then okO (fm ys) else none
section
variable {X : Cx} {E : XK} {a b c e o : Expr} {es : List Expr} {pos p : Pos} {fa fb fc f : DS → M DV} {fr : DS → M (List DV)}
theorem px_call {k : Nat} {fn : Addr} {fd : FuncData} {ps : List Str} {x : Str} {n : Nat} {fm : List DV → M DV} (F : FnOk X.prog X.w X.K X.mg X.base CX0 k fn fd ps (sp0 n fm)) (hr : Room k X.A) (hm : X.mg x = some (.ref fn)) (hk : PySem.W.keepIn X.K (.ref fn) = true) (hb : Binds X.K fd ps [])
    (ha : PAs X E (e :: es) fr) (hg : Gl X x := by rfl) (hdb : (x == ("__debug__" : Str)) = false := by decide) (he : starEach (e :: es) X.env = (false, eval e X.env) :: starEach es X.env := by rfl) (hpl : (backTo pos (starEach es X.env)).any (·.1) = false := by rfl) :
    PX X E (.Call (.Name x p) (e :: es) [] pos) (eCb (zxg n fm) fr) :=
  PE.mono (pe_call (E := E0) F hr hg hm hk hb .nil (fun _ _ _ _ _ _ _ h => h.elim) ha hdb he hpl) fun σ H Q q => tA_bd (g := fun _ => zxg n fm) q fun O P δ xs r vs H1 rs rs1 s1 rx e q => by
    obtain ⟨ys, h1, h2⟩ := bd_op e
    split at h2
    · rename_i hl
      cases hf : fm ys with
      | none => rw [hf] at h2; cases h2
      | some z =>
        rw [hf] at h2
        cases z with
        | error c => cases h2
        | ok x =>
          cases h2
          have ry := REs.hand rs.dom s1 rx h1
          refine ⟨?_, P ++ O, ys, x, fun a ha => ?_, ?_, hf, fun v H' s2 rv => q v H' s2 (rv.back s1)⟩
          · rw [List.append_nil, ← Paired.length ry]; exact hl
          · obtain ⟨o, e'⟩ := rs.dom a ha
            exact ⟨o, s1 a o e'⟩
          · rw [List.append_nil]; exact ry
    · cases h2
noncomputable def gLen (xs : List DV) : M DV := match xs with
  | [x] => match asQ x with
    | some (.list ys) => rt (.d (.int ys.length))
    | some (.tuple ys) => rt (.d (.int ys.length))
    | _ => none
  | _ => none
theorem RE.look {O P : List Addr} {H₀ H : Hp} {x : DV} {v : V} {ys : List D} (r : RE O P H₀ H x v) : (asQ x = some (.list ys) → ∃ a vs, v = .ref a ∧ H a = some (.lst vs) ∧ RpL (P ++ O) H ys vs) ∧ (asQ x = some (.tuple ys) → ∃ a vs, v = .ref a ∧ H a = some (.tup vs) ∧ RpL (P ++ O) H ys vs) := by
  refine ⟨fun h => ?_, fun h => ?_⟩
  · refine r.list ?_
    cases x with
    | d z => cases h; rfl
    | ob C fs => cases h
    | tbl kvs => cases h
    | ex q => cases h
    | tpo p xs q => cases h
    | nwt p xs q => cases h
    | own xs => cases h; rfl
    | new xs => cases h; rfl
    | scr K ns => cases h
  · cases x with
    | d z =>
      cases h
      have r' : Rp (P ++ O) H _ v := r
      cases r' with
      | tup hz ha l => exact ⟨_, _, rfl, ha, l⟩
    | ob C fs => cases h
    | tbl kvs => cases h
    | ex q => cases h
    | tpo p xs q => cases h
    | nwt p xs q => cases h
    | own xs => cases h
    | new xs => cases h
    | scr K ns => cases h
theorem cv_len : CallV X E (.builtin "len") gLen := CallV.of call_len_seq fun O P H₀ H xs vs r Q hd hs rx e q => by
  unfold gLen at e
  split at e
  · cases rx with
    | cons r1 rr =>
      cases rr
      split at e
      · rename_i h
        cases e
        obtain ⟨a, vs, rfl, ha, l⟩ := r1.look.1 h
        exact ⟨a, vs, rfl, .inl (SqL.of ha), q _ H (Same.refl H) (by rw [l.length]; exact .int _)⟩
      · rename_i h
        cases e
        obtain ⟨a, vs, rfl, ha, l⟩ := r1.look.2 h
        exact ⟨a, vs, rfl, .inr (SqT.of ha), q _ H (Same.refl H) (by rw [l.length]; exact .int _)⟩
      · cases e
  · cases e
open Classical in
noncomputable def gLenS (K : PySem.W.Frag) (xs : List DV) : M DV := match xs with
  | [.scr K' ns] => if K' = K then rt (.d (.int ns.length)) else none
  | _ => none
theorem cv_lenS : CallV X E (.builtin "len") (gLenS X.K) := CallV.of call_len_seq fun O P H₀ H xs vs r Q hd hs rx e q => by
  unfold gLenS at e
  split at e
  · split at e
    · rename_i hK
      subst hK
      cases e
      cases rx with
      | cons r1 rr =>
        cases rr
        obtain ⟨a, rfl, ha⟩ := r1.scrSq
        refine ⟨a, _, rfl, .inl ha, ?_⟩
        rw [List.length_map]
        exact q _ H (Same.refl H) (.int _)
    · cases e
  · cases e
noncomputable def gMin (xs : List DV) : M DV := match xs with
  | [.d (.int i), .d (.int j)] => rt (.d (.int (if j < i then j else i)))
  | _ => none
theorem cv_min (hc : X.calm = true) : CallV X E (.builtin "min") gMin := CallV.of (call_min2 hc) fun O P H₀ H xs vs r Q hd hs rx e q => by
  unfold gMin at e
  split at e
  · cases e
    cases rx with
    | cons r1 rr =>
      cases rr with
      | cons r2 rr =>
        cases rr
        cases r1
        cases r2
        exact ⟨_, _, rfl, q _ H (Same.refl H) (.int _)⟩
  · cases e
end
end L3
set_option Elab.async false
set_option linter.all false
set_option maxRecDepth 100000
set_option maxHeartbeats 4000000
set_option autoImplicit false
namespace L3
open PySem PySem.Spec L2
open PyProof.Rows hiding St
inductive Out where
  | nx (δ : DS)
  | rt (x : DV)
  | bk (δ : DS)
  | ct (δ : DS)
noncomputable def FnS (E : XK) (O P : List Addr) (H : Hp) (T : Ends) : Except Value Out → Prop
  | .ok (.nx δ) => ∀ σ' H' P', Kp P H P' H' → RS O P' H' σ' δ → T.nx σ' H'
  | .ok (.bk δ) => ∀ σ' H' P', Kp P H P' H' → RS O P' H' σ' δ → T.bk σ' H'
  | .ok (.ct δ) => ∀ σ' H' P', Kp P H P' H' → RS O P' H' σ' δ → T.ct σ' H'
  | .ok (.rt x) => ∀ v H1 H' P', Kp P H P' H1 → Same H1 H' → (∀ a, a ∈ P' ++ O → ∃ o, H1 a = some o) → (∀ a, a ∈ P' → a ∉ O) → RE O P' H1 H' x v → T.rt v H'
  | .error c => ∀ dx H' P', Kp P H P' H' → E c dx H'
theorem FnS.on {E : XK} {O P P1 : List Addr} {H H1 : Hp} {T : Ends} {r : Except Value Out} (h : FnS E O P H T r) (k : Kp P H P1 H1) : FnS E O P1 H1 T r := by
  cases r with
  | error c => exact fun dx H' P' k' => h dx H' P' (k.trans k')
  | ok o =>
    cases o with
    | nx δ => exact fun σ' H' P' k' rs => h σ' H' P' (k.trans k') rs
    | bk δ => exact fun σ' H' P' k' rs => h σ' H' P' (k.trans k') rs
    | ct δ => exact fun σ' H' P' k' rs => h σ' H' P' (k.trans k') rs
    | rt x => exact fun v H2 H' P' k' s d ap rx => h v H2 H' P' (k.trans k') s d ap rx
noncomputable def tS (E : XK) (F : DS → M Out) : TS := fun T σ H => ∃ O P δ r, RS O P H σ δ ∧ F δ = some r ∧ FnS E O P H T r
noncomputable def PSt (X : Cx) (E : XK) (st : Stmt) (F : DS → M Out) : Prop := PS X st (tS E F)
noncomputable def PSd (X : Cx) (E : XK) (st : List Stmt) (F : DS → M Out) : Prop := PSs X st (tS E F)
theorem PS.mono {X : Cx} {st : Stmt} {t t' : TS} (h : PS X st t) (m : ∀ T σ H, t' T σ H → t T σ H) : PS X st t' := fun pins s σ H T I q => h pins s σ H T I (m T σ H q)
theorem PSs.mono {X : Cx} {st : List Stmt} {t t' : TS} (h : PSs X st t) (m : ∀ T σ H, t' T σ H → t T σ H) : PSs X st t' := fun pins s σ H T I q => h pins s σ H T I (m T σ H q)
noncomputable def sqo (F : DS → M Out) (o : Out) : M Out := match o with
  | .nx δ => F δ
  | .rt x => rt (.rt x)
  | .bk δ => rt (.bk δ)
  | .ct δ => rt (.ct δ)
@[simp] theorem zqe (F : DS → M Out) (δ : DS) : sqo F (.nx δ) = F δ := rfl
@[simp] theorem zqy (F : DS → M Out) (x : DV) : sqo F (.rt x) = rt (.rt x) := rfl
@[simp] theorem sqo_bk (F : DS → M Out) (δ : DS) : sqo F (.bk δ) = rt (.bk δ) := rfl
@[simp] theorem sqo_ct (F : DS → M Out) (δ : DS) : sqo F (.ct δ) = rt (.ct δ) := rfl
noncomputable def fSq (F G : DS → M Out) (δ : DS) : M Out := bd (F δ) (sqo G)
noncomputable def fNil (δ : DS) : M Out := rt (.nx δ)
section
variable {X : Cx} {E : XK} {st : Stmt} {sts : List Stmt} {F G : DS → M Out} {e c : Expr} {pos : Pos} {f : DS → M DV} {fr : DS → M (List DV)} {gc : DS → M Bool}
theorem ds_nil : PSd X E [] fNil := PSs.mono pss_nil fun T σ H q => by
  obtain ⟨O, P, δ, r, rs, e, q⟩ := q
  cases e
  exact q σ H P (.refl) rs
theorem zzg (h1 : PSt X E st F) (h2 : PSd X E sts G) : PSd X E (st :: sts) (fSq F G) := PSs.mono (pss_cons h1 h2) fun T σ H q => by
  obtain ⟨O, P, δ, r, rs, e, q⟩ := q
  rcases zze e with ⟨o, e1, e2⟩ | ⟨c, e1, e2⟩
  · cases o with
    | nx δ1 => exact ⟨O, P, δ, .ok (.nx δ1), rs, e1, fun σ' H' P' k rs' => ⟨O, P', δ1, r, rs', e2, q.on k⟩⟩
    | rt x => cases e2; exact ⟨O, P, δ, .ok (.rt x), rs, e1, q⟩
    | bk δ1 => cases e2; exact ⟨O, P, δ, .ok (.bk δ1), rs, e1, q⟩
    | ct δ1 => cases e2; exact ⟨O, P, δ, .ok (.ct δ1), rs, e1, q⟩
  · subst e2
    exact ⟨O, P, δ, .error c, rs, e1, q⟩
theorem zyh (h1 : PSt X E st F) : PSd X E [st] F := pss_one h1
noncomputable def frz (i : Nat) (δ : DS) : DS := match δ[i]? with
  | some (some (.own xs)) => δ.set i (some (.d (.list xs)))
  | some (some (.tpo p xs q)) => δ.set i (some (.d (.tuple (p ++ .list xs :: q))))
  | _ => δ
theorem RS.frzG {O P : List Addr} {H : Hp} {σ : St} {δ : DS} (r : RS O P H σ δ) {i : Nat} {x : DV} {v : V} {a : Addr} {d : D} (e : δ[i]? = some (some x)) (ev : σ[i]? = some (some v)) (o : OwA H x v a) (hd : Rp (P.filter (fun b => !decide (b = a)) ++ O) H d v) : RS O (P.filter (fun b => !decide (b = a))) H σ (δ.set i (some (.d d))) := by
  have hi : i < δ.length := (List.getElem?_eq_some_iff.mp e).1
  have sub : ∀ b, b ∈ P.filter (fun b => !decide (b = a)) → b ∈ P := fun b hb => (List.mem_filter.mp hb).1
  have subz : ∀ b, b ∈ P.filter (fun b => !decide (b = a)) ++ O → b ∈ P ++ O := fun b hb => by
    rcases List.mem_append.mp hb with h | h
    · exact List.mem_append_left _ (sub b h)
    · exact List.mem_append_right _ h
  refine ⟨by simp [r.len], fun b hb => r.dom b (subz b hb), fun b hb => r.apart b (sub b hb), fun j y ej => ?_, fun j m y z v1 v2 c e1 e2 e3 e4 o1 o2 => ?_⟩
  · by_cases hj : i = j
    · subst hj
      rw [List.getElem?_set_self hi] at ej
      cases ej
      exact ⟨v, ev, fun _ => nofun, hd⟩
    · rw [List.getElem?_set_ne hj] at ej
      obtain ⟨w, e1, e2, e3⟩ := r.at' j y ej
      refine ⟨w, e1, e2, ?_⟩
      have ne : ∀ c, OwA H y w c → c ∈ P → c ∈ P.filter (fun b => !decide (b = a)) := fun c oc hc => by
        refine List.mem_filter.mpr ⟨hc, ?_⟩
        have : c ≠ a := fun z => hj (r.one i j x y v w a e ej ev e1 o (z ▸ oc))
        simpa using this
      cases y with
      | d y => exact Rp.kp (.sub subz) e3
      | ob C fs => exact ObR.kp (.sub subz) e3
      | tbl kvs => exact TbR.kp (.sub subz) e3
      | ex q => exact e3
      | tpo p xs q =>
        obtain ⟨t, b, ps, vs, qs, et, hz, ht, hb, hl, l1, l2, l3⟩ := e3
        refine ⟨t, b, ps, vs, qs, et, fun h => hz (subz t h), ht, ne b ⟨t, _, et, ht, ?_⟩ hb, hl, l1.kp (.sub subz), l2.kp (.sub subz), l3.kp (.sub subz)⟩
        rw [l1.length, List.getElem?_append_right (Nat.le_refl _), Nat.sub_self]; rfl
      | nwt p xs q => exact (NtR.no e3).elim
      | own ys =>
        obtain ⟨b, us, eb, hPb, hb, hl⟩ := e3
        exact ⟨b, us, eb, ne b eb hPb, hb, hl.kp (.sub subz)⟩
      | new ys => exact absurd rfl (e2 ys)
      | scr K ns =>
        obtain ⟨b, eb, hz⟩ := e3
        exact ⟨b, eb, hz.imp (fun z => ⟨fun h => z.1 (subz b h), z.2⟩) fun z => z⟩
  · have nj : ∀ (j : Nat) (y : DV), ownq y = true → (δ.set i (some (.d d)))[j]? = some (some y) → δ[j]? = some (some y) := fun j y hy ej => by
      by_cases hj : i = j
      · subst hj
        rw [List.getElem?_set_self hi] at ej
        cases ej
        cases hy
      · rw [List.getElem?_set_ne hj] at ej; exact ej
    exact r.one j m y z v1 v2 c (nj j y o1.q e1) (nj m z o2.q e2) e3 e4 o1 o2
theorem RS.frz {O P : List Addr} {H : Hp} {σ : St} {δ : DS} (r : RS O P H σ δ) (i : Nat) : ∃ P', (∀ a, a ∈ P' → a ∈ P) ∧ RS O P' H σ (frz i δ) := by
  have sub : ∀ a b, b ∈ P.filter (fun b => !decide (b = a)) → b ∈ P := fun a b hb => (List.mem_filter.mp hb).1
  have nota : ∀ a, a ∈ P → a ∉ P.filter (fun b => !decide (b = a)) ++ O := fun a hP h => by
    rcases List.mem_append.mp h with h | h
    · have := (List.mem_filter.mp h).2; simp at this
    · exact r.apart a hP h
  have subz : ∀ a b, b ∈ P.filter (fun b => !decide (b = a)) ++ O → b ∈ P ++ O := fun a b hb => by
    rcases List.mem_append.mp hb with h | h
    · exact List.mem_append_left _ (sub a b h)
    · exact List.mem_append_right _ h
  unfold L3.frz
  split
  · rename_i xs e
    obtain ⟨v, ev, _, a, vs, rfl, hP, ha, l⟩ := r.at' i _ e
    exact ⟨P.filter (fun b => !decide (b = a)), sub a, r.frzG e ev rfl (Rp.lst (nota a hP) ha (l.kp (.sub (subz a))))⟩
  · rename_i p xs q e
    obtain ⟨v, ev, _, t, a, ps, vs, qs, rfl, hz, ht, hP, ha, l1, l2, l3⟩ := r.at' i _ e
    refine ⟨P.filter (fun b => !decide (b = a)), sub a, r.frzG e ev (a := a) ⟨t, _, rfl, ht, ?_⟩ (Rp.tup (fun h => hz (subz a t h)) ht (RpL.append (l1.kp (.sub (subz a))) (.cons (Rp.lst (nota a hP) ha (l2.kp (.sub (subz a)))) (l3.kp (.sub (subz a))))))⟩
    rw [l1.length, List.getElem?_append_right (Nat.le_refl _), Nat.sub_self]; rfl
  · exact ⟨P, fun _ h => h, r⟩
theorem FnS.sub {O P P' : List Addr} {H : Hp} {T : Ends} {r : Except Value Out} (h : FnS E O P H T r) (hs : ∀ a, a ∈ P' → a ∈ P) : FnS E O P' H T r := h.on (.sub hs)
theorem ds_frz (i : Nat) (h : PSd X E sts F) : PSd X E sts (fun δ => F (frz i δ)) := PSs.mono h fun T σ H q => by
  obtain ⟨O, P, δ, r, rs, e, q⟩ := q
  obtain ⟨P', hP, rs'⟩ := rs.frz i
  exact ⟨O, P', frz i δ, r, rs', e, q.sub hP⟩
noncomputable def fIf (gc : DS → M Bool) (F G : DS → M Out) (δ : DS) : M Out := bd (gc δ) fun k => if k = true then F δ else G δ
theorem st_if {as bs : List Stmt} (hc : PB X E c gc) (ha : PSd X E as F) (hb : PSd X E bs G) : PSt X E (.If c as bs pos) (fIf gc F G) := PS.mono (ps_if hc ha hb) fun T σ H q => by
  obtain ⟨O, P, δ, r, rs, e, q⟩ := q
  rcases zze e with ⟨k, e1, e2⟩ | ⟨cx, e1, e2⟩
  · refine ⟨O, P, δ, .ok k, rs, e1, fun H1 s1 => ?_⟩
    cases k with
    | true => exact iteT ⟨O, P, δ, r, rs.same s1, e2, q.on (.same s1)⟩
    | false => exact iteF ⟨O, P, δ, r, rs.same s1, e2, q.on (.same s1)⟩
  · subst e2
    exact ⟨O, P, δ, .error cx, rs, e1, fun dx H' s => q dx H' P (.same s)⟩
noncomputable def fRet (f : DS → M DV) (δ : DS) : M Out := bd (f δ) fun x => rt (.rt x)
theorem st_ret (he : PX X E e f) : PSt X E (.Return (some e) pos) (fRet f) := PS.mono (ps_ret he) fun T σ H q => by
  obtain ⟨O, P, δ, r, rs, e, q⟩ := q
  rcases zze e with ⟨x, e1, e2⟩ | ⟨cx, e1, e2⟩
  · cases e2
    exact ⟨O, P, δ, .ok x, rs, e1, fun v H1 s1 rx => q v H H1 P .refl s1 rs.dom rs.apart rx⟩
  · subst e2
    exact ⟨O, P, δ, .error cx, rs, e1, fun dx H' s => q dx H' P (.same s)⟩
noncomputable def fDrop (f : DS → M DV) (δ : DS) : M Out := bd (f δ) fun _ => rt (.nx δ)
theorem st_expr (he : PX X E e f) (hs : swapsWith e none pos.line X.env = pure false := by rfl) : PSt X E (.Expr e pos) (fDrop f) := PS.mono (ps_expr he hs) fun T σ H q => by
  obtain ⟨O, P, δ, r, rs, e, q⟩ := q
  rcases zze e with ⟨x, e1, e2⟩ | ⟨cx, e1, e2⟩
  · cases e2
    exact ⟨O, P, δ, .ok x, rs, e1, fun v H1 s1 rx => q σ H1 P (.same s1) (rs.same s1)⟩
  · subst e2
    exact ⟨O, P, δ, .error cx, rs, e1, fun dx H' s => q dx H' P (.same s)⟩
noncomputable def asgn : DV → Option DV
  | .d x => some (.d x)
  | .ob C fs => some (.ob C fs)
  | .tbl kvs => some (.tbl kvs)
  | .ex q => some (.ex q)
  | .scr K ns => some (.scr K ns)
  | .new xs => some (.own xs)
  | .own _ => none
  | .tpo _ _ _ => none
  | .nwt p xs q => some (.tpo p xs q)
@[simp] theorem asgn_nwt (p xs q : List D) : asgn (.nwt p xs q) = some (.tpo p xs q) := rfl
@[simp] theorem zqv (x : D) : asgn (.d x) = some (.d x) := rfl
@[simp] theorem zyq (C : Addr) (fs : List (Str × D)) : asgn (.ob C fs) = some (.ob C fs) := rfl
@[simp] theorem zzh (xs : List D) : asgn (.new xs) = some (.own xs) := rfl
@[simp] theorem zxx (K : PySem.W.Frag) (ns : List Int) : asgn (.scr K ns) = some (.scr K ns) := rfl
theorem RS.asg {O P : List Addr} {H H1 : Hp} {σ : St} {δ : DS} {x y : DV} {v : V} (r : RS O P H σ δ) (s1 : Same H H1) (rx : RE O P H H1 x v) (h : asgn x = some y) (i : Nat) :
    ∃ P', Kp P H P' H1 ∧ RS O P' H1 (σ.set i (some v)) (δ.set i (some y)) := by
  cases x with
  | d z => cases h; exact ⟨P, .same s1, (r.same s1).set rx (fun _ => nofun) rfl⟩
  | ob C fs => cases h; exact ⟨P, .same s1, (r.same s1).set rx (fun _ => nofun) rfl⟩
  | tbl kvs => cases h; exact ⟨P, .same s1, (r.same s1).set rx (fun _ => nofun) rfl⟩
  | ex q => cases h; exact ⟨P, .same s1, (r.same s1).set rx (fun _ => nofun) rfl⟩
  | own xs => cases h
  | tpo p xs q => cases h
  | nwt p xs q =>
    cases h
    obtain ⟨a, hn, rs⟩ := r.ownT s1 rx (i := i)
    refine ⟨a :: P, ⟨fun b o _ e => s1 b o e, fun b hb => ?_⟩, rs⟩
    rcases List.mem_cons.mp hb with z | z
    · exact .inr (z ▸ hn)
    · exact .inl z
  | scr K ns => cases h; exact ⟨P, .same s1, (r.same s1).set rx (fun _ => nofun) rfl⟩
  | new xs =>
    cases h
    obtain ⟨a, hn, rs⟩ := r.own s1 rx (i := i)
    refine ⟨a :: P, ⟨fun b o _ e => s1 b o e, fun b hb => ?_⟩, rs⟩
    rcases List.mem_cons.mp hb with z | z
    · exact .inr (z ▸ hn)
    · exact .inl z
noncomputable def fSet (i : Nat) (f : DS → M DV) (δ : DS) : M Out := bd (f δ) fun x => bd (op (asgn x)) fun y => rt (.nx (δ.set i (some y)))
theorem zjw {i : Nat} {x : Str} {pos' : Pos} (hN : X.N.Nodup) (he : PX X E e f) (hi : X.N[i]? = some x := by rfl) (hx : Loc X.env.scope x := by first | exact Or.inl rfl | exact Or.inr rfl) (hs : swapsWith e (some (.Name x pos')) pos.line X.env = pure false := by rfl)
    (hf : X.fn x = true ∨ X.env.scope.names.lookup x = some .local := by first | exact .inl rfl | exact .inr rfl | assumption) : PSt X E (.Assign [.Name x pos'] e pos) (fSet i f) := PS.mono (ps_set hN hi hx he hs hf) fun T σ H q => by
  obtain ⟨O, P, δ, r, rs, e, q⟩ := q
  rcases zze e with ⟨x, e1, e2⟩ | ⟨cx, e1, e2⟩
  · obtain ⟨y, e3, e4⟩ := bd_op e2
    cases e4
    refine ⟨O, P, δ, .ok x, rs, e1, fun v H1 s1 rx => ?_⟩
    obtain ⟨P', k, rs'⟩ := rs.asg s1 rx e3 i
    exact q _ H1 P' k rs'
  · subst e2
    exact ⟨O, P, δ, .error cx, rs, e1, fun dx H' s => q dx H' P (.same s)⟩
noncomputable def fTg (sf : D → DS → Option DS) (f : DS → M DV) (δ : DS) : M Out := bd (f δ) fun x => bd (op (asD x)) fun d => bd (op (sf d δ)) fun δ' => rt (.nx δ')
theorem st_asg {tg : Expr} {g : TG} {sf : D → DS → Option DS} (he : PX X E e f) (hg : PG X tg g) (ht : TgV g sf) (hs : swapsWithSole [tg] e pos.line X.env = pure false := by rfl) (hw : swappedStores [tg] e X.env = pure none := by rfl)
    (h1 : (assignEach [tg] X.env).map (·.2) = [assign tg X.env] := by rfl) : PSt X E (.Assign [tg] e pos) (fTg sf f) := PS.mono (ps_asg he hg hs hw h1) fun T σ H q => by
  obtain ⟨O, P, δ, r, rs, e, q⟩ := q
  rcases zze e with ⟨x, e1, e2⟩ | ⟨cx, e1, e2⟩
  · obtain ⟨d, e3, e4⟩ := bd_op e2
    obtain ⟨δ', e5, e6⟩ := bd_op e4
    cases e6
    refine ⟨O, P, δ, .ok x, rs, e1, fun v H1 s1 rx => ?_⟩
    exact ht O P H1 σ δ δ' d v _ (rs.same s1) (rx.data rs.dom e3) e5 fun σ' rs' => q σ' H1 P (.same s1) rs'
  · subst e2
    exact ⟨O, P, δ, .error cx, rs, e1, fun dx H' s => q dx H' P (.same s)⟩
noncomputable def fPar (i j : Nat) (fr : DS → M (List DV)) (δ : DS) : M Out := bd (fr δ) fun xs => bd (op (datas xs)) fun ds => match ds with
  | [x, y] => rt (.nx ((δ.set i (some (.d x))).set j (some (.d y))))
  | _ => none
noncomputable def fApp (i : Nat) (f : DS → M DV) (δ : DS) : M Out := match δ[i]? with
  | some (some (.own xs)) => bd (f δ) fun x => bd (op (asD x)) fun d => if xs.length < 1000000 then rt (.nx (δ.set i (some (.own (xs ++ [d]))))) else none
  | _ => none
theorem RS.growG {O P : List Addr} {H : Hp} {σ : St} {δ : DS} {i : Nat} {x x' : DV} {v : V} {a : Addr} {us : List V} (r : RS O P H σ δ) (e : δ[i]? = some (some x)) (ev : σ[i]? = some (some v)) (o : OwA H x v a) (hx : ∀ xs, x' ≠ .new xs) (rx : RE O P (upd H a (.lst us)) (upd H a (.lst us)) x' v) (ox : ∀ b, OwA (upd H a (.lst us)) x' v b → b = a) (hP : a ∈ P) :
    Kp P H P (upd H a (.lst us)) ∧ RS O P (upd H a (.lst us)) σ (δ.set i (some x')) := by
  have hi : i < δ.length := (List.getElem?_eq_some_iff.mp e).1
  have k : Kp P H P (upd H a (.lst us)) := ⟨fun b o hb q => by rw [zqq (show b ≠ a from fun z => hb (by rw [z]; exact hP))]; exact q, fun b hb => .inl hb⟩
  have kz : Kp (P ++ O) H (P ++ O) (upd H a (.lst us)) := ⟨fun b o hb q => by rw [zqq (show b ≠ a from fun z => hb (by rw [z]; exact List.mem_append_left _ hP))]; exact q, fun b hb => .inl hb⟩
  have old : ∀ (j : Nat) (y : DV) (w : V) (c : Addr), δ[j]? = some (some y) → σ[j]? = some (some w) → OwA (upd H a (.lst us)) y w c → OwA H y w c := fun j y w c e q o => by
    obtain ⟨w', e1, _, r1⟩ := r.at' j _ e
    rw [q] at e1
    cases e1
    exact o.old kz.keep r1
  refine ⟨k, by simp [r.len], fun b hb => ?_, r.apart, fun j y ej => ?_, fun j m y z v1 v2 c e1 e2 e3 e4 o1 o2 => ?_⟩
  · by_cases hb' : b = a
    · exact ⟨_, by rw [hb', zjj]⟩
    · rw [zqq hb']; exact r.dom b hb
  · by_cases hj : i = j
    · subst hj
      rw [List.getElem?_set_self hi] at ej
      cases ej
      exact ⟨v, ev, hx, rx⟩
    · rw [List.getElem?_set_ne hj] at ej
      obtain ⟨w, e1, e2, e3⟩ := r.at' j y ej
      refine ⟨w, e1, e2, ?_⟩
      have ne : ∀ c, OwA H y w c → c ≠ a := fun c oc z => hj (r.one i j x y v w a e ej ev e1 o (z ▸ oc))
      cases y with
      | d y => exact Rp.kp kz e3
      | ob C fs => exact ObR.kp kz e3
      | tbl kvs => exact TbR.kp kz e3
      | ex q => exact e3
      | tpo p xs q =>
        obtain ⟨t, b, ps, vs, qs, et, hz, ht, hb, hl, l1, l2, l3⟩ := e3
        have hne : b ≠ a := ne b ⟨t, _, et, ht, by rw [l1.length, List.getElem?_append_right (Nat.le_refl _), Nat.sub_self]; rfl⟩
        exact ⟨t, b, ps, vs, qs, et, hz, (kz.at hz ht).2, hb, by rw [zqq hne]; exact hl, l1.kp kz, l2.kp kz, l3.kp kz⟩
      | nwt p xs q => exact (NtR.no e3).elim
      | own zs =>
        obtain ⟨b, vs, eb, hPb, hb, hl⟩ := e3
        have hne : b ≠ a := ne b eb
        exact ⟨b, vs, eb, hPb, by rw [zqq hne]; exact hb, hl.kp kz⟩
      | new zs => exact absurd rfl (e2 zs)
      | scr K ns =>
        obtain ⟨b, eb, ⟨hz, hb⟩ | hk⟩ := e3
        · have hba : b ≠ a := fun z => hz (by rw [z]; exact List.mem_append_left _ hP)
          refine ⟨b, eb, .inl ⟨hz, ?_⟩⟩
          rcases hb with hb | ⟨ob, hb⟩
          · exact .inl (by rw [zqq hba]; exact hb)
          · exact .inr ⟨ob, by rw [zqq hba]; exact hb⟩
        · exact ⟨b, eb, .inr hk⟩
  · have nj : ∀ (j : Nat) (y : DV) (w : V), (δ.set i (some x'))[j]? = some (some y) → σ[j]? = some (some w) → OwA (upd H a (.lst us)) y w c → ∃ y', δ[j]? = some (some y') ∧ OwA H y' w c := fun j y w ej eq oc => by
      by_cases hj : i = j
      · subst hj
        rw [List.getElem?_set_self hi] at ej
        cases ej
        rw [ev] at eq
        cases eq
        have hc := ox c oc
        exact ⟨x, e, hc ▸ o⟩
      · rw [List.getElem?_set_ne hj] at ej; exact ⟨y, ej, old j y w c ej eq oc⟩
    obtain ⟨z1, d1, p1⟩ := nj j _ _ e1 e3 o1
    obtain ⟨z2, d2, p2⟩ := nj m _ _ e2 e4 o2
    exact r.one j m z1 z2 v1 v2 c d1 d2 e3 e4 p1 p2
theorem RS.grow {O P : List Addr} {H : Hp} {σ : St} {δ : DS} {i : Nat} {xs ys : List D} {a : Addr} {us : List V} (r : RS O P H σ δ) (e : δ[i]? = some (some (.own xs))) (ev : σ[i]? = some (some (.ref a))) (l : RpL (P ++ O) H ys us) (hP : a ∈ P) :
    Kp P H P (upd H a (.lst us)) ∧ RS O P (upd H a (.lst us)) σ (δ.set i (some (.own ys))) := by
  have kz : Kp (P ++ O) H (P ++ O) (upd H a (.lst us)) := ⟨fun b o hb q => by rw [zqq (show b ≠ a from fun z => hb (by rw [z]; exact List.mem_append_left _ hP))]; exact q, fun b hb => .inl hb⟩
  exact r.growG e ev (x := .own xs) rfl (fun _ => nofun) ⟨a, us, rfl, hP, zjj, l.kp kz⟩ (fun b h => by
    have h' : V.ref a = .ref b := h
    cases h'; rfl) hP
theorem st_app {i : Nat} {o : Expr} {apos cpos : Pos} (ho : PE X o (tVar i)) (he : PX X E e f)
    (hbase : attributeBase o "append" X.env (eval o X.env) = eval o X.env := by rfl)
    (hfew : ((backTo cpos (starEach [e] X.env)).all (fun x => !x.1) && (backToKw cpos (keywordEach [] X.env)).all (fun x => x.1.isSome)
      && decide ([e].length + ([] : List Keyword).length + (if ([] : List Keyword).isEmpty then 0 else 1) < 30)) = true := by rfl)
    (hline : (apos.endLine == cpos.line) = true := by rfl) (hs : starEach [e] X.env = (false, eval e X.env) :: starEach [] X.env := by rfl) (hplain : (backTo cpos (starEach [] X.env)).any (·.1) = false := by rfl)
    (hsw : swapsWith (.Call (.Attribute o "append" apos) [e] [] cpos) none pos.line X.env = pure false := by rfl) : PSt X E (.Expr (.Call (.Attribute o "append" apos) [e] [] cpos) pos) (fApp i f) :=
  PS.mono (ps_expr (pe_bm PySem.F.plainAttrs_list PySem.F.slot_list_append PySem.F.type_list_append mt_append ho (pa_cons he pa_nil hs) hbase hfew hline hs hplain) hsw) fun T σ H q => by
    obtain ⟨O, P, δ, r, rs, e, q⟩ := q
    unfold fApp at e
    split at e
    · rename_i xs ei
      obtain ⟨v, ev, _, a, vs, rfl, hP, ha, l⟩ := rs.at' i _ ei
      refine ⟨.ref a, ev, .inl ⟨rfl, _, SqL.of ha⟩, ?_⟩
      rcases zze e with ⟨x, e1, e2⟩ | ⟨cx, e1, e2⟩
      · obtain ⟨d, e3, e4⟩ := bd_op e2
        split at e4
        · rename_i hz
          cases e4
          refine ⟨O, P, δ, .ok x, rs, e1, fun u H1 s1 rx => ?_⟩
          have ru := rx.data rs.dom e3
          have l1 := (l.kp (.same s1)).append (.cons ru .nil)
          obtain ⟨k, rs'⟩ := (rs.same s1).grow ei ev l1 hP
          refine ⟨a, vs, u, rfl, rfl, s1 a _ ha, ?_, q σ _ P ((Kp.same s1).trans k) rs'⟩
          rw [← l.length]
          exact Nat.lt_of_lt_of_le hz (by rw [sizeLine_eq]; decide)
        · cases e4
      · subst e2
        exact ⟨O, P, δ, .error cx, rs, e1, fun dx H' s => q dx H' P (.same s)⟩
    · cases e
end
end L3
set_option Elab.async false
set_option linter.all false
set_option maxRecDepth 100000
set_option maxHeartbeats 4000000
set_option autoImplicit false
namespace L3
open PySem PySem.Spec L2
open PyProof.Rows hiding St
theorem Kp.app {O P P' : List Addr} {H H' : Hp} (k : Kp P H P' H') : Kp (P ++ O) H (P' ++ O) H' := ⟨fun a o ha e => k.keep a o (fun h => ha (List.mem_append_left _ h)) e, fun a ha => by
  rcases List.mem_append.mp ha with h | h
  · rcases k.new a h with z | z
    · exact .inl (List.mem_append_left _ z)
    · exact .inr z
  · exact .inl (List.mem_append_right _ h)⟩
noncomputable def ItOk (O P : List Addr) (H : Hp) (J : It) (xs : List D) : Prop := ∀ (i : Nat) (P' : List Addr) (H' : Hp), Kp P H P' H' →
  (∀ d, xs[i]? = some d → J.go i H' ∧ ∀ x H2, J.yld i H' x H2 → H2 = H' ∧ Rp (P' ++ O) H' d x) ∧ (xs.length ≤ i → J.stop i H')
theorem ItOk.on {O P P1 : List Addr} {H H1 : Hp} {J : It} {xs : List D} (h : ItOk O P H J xs) (k : Kp P H P1 H1) : ItOk O P1 H1 J xs := fun i P' H' k' => h i P' H' (k.trans k')
noncomputable def FnI (E : XK) (O P : List Addr) (H : Hp) (R : It → Hp → Prop) : Except Value (List D) → Prop
  | .ok xs => ∀ J H', Same H H' → ItOk O P H' J xs → R J H'
  | .error c => ∀ dx H', Same H H' → E c dx H'
noncomputable def tI (E : XK) (f : DS → M (List D)) : TI := fun σ H R => ∃ O P δ r, RS O P H σ δ ∧ f δ = some r ∧ FnI E O P H R r
noncomputable def PIx (X : Cx) (E : XK) (tg iter : Expr) (f : DS → M (List D)) : Prop := PI X tg iter (tI E f)
theorem PI.mono {X : Cx} {tg e : Expr} {t t' : TI} (h : PI X tg e t) (m : ∀ σ H R, t' σ H R → t σ H R) : PI X tg e t' := fun pins s σ H R I q => h pins s σ H R I (m σ H R q)
noncomputable def iLs (f : DS → M DV) (δ : DS) : M (List D) := bd (f δ) fun x => match asD x with
  | some (.list xs) => rt xs
  | _ => none
noncomputable def runI (lo : Int) (n : Nat) : List D := (List.range n).map fun (k : Nat) => PyData.int (lo + (k : Int))
theorem runI_len (lo : Int) (n : Nat) : (runI lo n).length = n := by simp [runI]
theorem runI_get {lo : Int} {n i : Nat} {d : D} (h : (runI lo n)[i]? = some d) : i < n ∧ d = .int (lo + (i : Int)) := by
  have hi : i < n := by rw [← runI_len lo n]; exact (List.getElem?_eq_some_iff.mp h).1
  refine ⟨hi, ?_⟩
  unfold runI at h
  rw [List.getElem?_map, List.getElem?_range hi] at h
  cases h; rfl
noncomputable def iR1 (fr : DS → M (List DV)) (δ : DS) : M (List D) := bd (fr δ) fun xs => match xs with
  | [.d (.int j)] => if -(2 ^ 62) ≤ j ∧ j < 2 ^ 62 then rt (runI 0 j.toNat) else none
  | _ => none
noncomputable def iR2 (fr : DS → M (List DV)) (δ : DS) : M (List D) := bd (fr δ) fun xs => match xs with
  | [.d (.int i), .d (.int j)] => if -(2 ^ 62) ≤ i ∧ i < 2 ^ 62 ∧ -(2 ^ 62) ≤ j ∧ j < 2 ^ 62 then rt (runI i (j - i).toNat) else none
  | _ => none
section
variable {X : Cx} {E : XK} {tg e a b : Expr} {f : DS → M DV} {fr : DS → M (List DV)} {p pos : Pos}
theorem it_range {O P : List Addr} {H : Hp} (lo : Int) (n : Nat) : ItOk O P H (Itr lo n) (runI lo n) := fun i P' H' k => by
  refine ⟨fun d hd => ?_, fun h => ?_⟩
  · obtain ⟨hi, rfl⟩ := runI_get hd
    exact ⟨hi, fun x H2 ⟨e1, e2⟩ => ⟨e1, by rw [e2]; exact .int _⟩⟩
  · rw [runI_len] at h; exact h
theorem it_list {O P : List Addr} {H : Hp} {K : PySem.W.Frag} {xs : List D} {v : V} (r : Rp (P ++ O) H (.list xs) v) : ∃ a, v = .ref a ∧ (∃ vs, SqL K H a vs) ∧ ItOk O P H (Itl K a) xs := by
  cases r with
  | @lst a _ vs hz ha l =>
    refine ⟨a, rfl, ⟨vs, SqL.of ha⟩, fun i P' H' k => ?_⟩
    have ha' := k.keep a _ (fun h => hz (List.mem_append_left _ h)) ha
    have l' := l.kp (Kp.app (O := O) k)
    refine ⟨fun d hd => ?_, fun h => ⟨vs, SqL.of ha', by rw [← l.length]; exact h⟩⟩
    obtain ⟨x, hx, rx⟩ := l'.get hd
    refine ⟨⟨vs, x, SqL.of ha', hx⟩, fun y H2 ⟨e1, e2⟩ => ⟨e1, ?_⟩⟩
    have := e2 vs (SqL.of ha')
    rw [hx] at this
    cases this; exact rx
theorem ix_ls (he : PX X E e f) : PIx X E tg e (iLs f) := PI.mono (pi_list he) fun σ H R q => by
  obtain ⟨O, P, δ, r, rs, e, q⟩ := q
  rcases zze e with ⟨x, e1, e2⟩ | ⟨cx, e1, e2⟩
  · refine ⟨O, P, δ, .ok x, rs, e1, fun v H1 s1 rx => ?_⟩
    split at e2
    · rename_i xs h
      cases e2
      obtain ⟨a, rfl, h1, h2⟩ := it_list (K := X.K) (rx.data rs.dom h)
      exact ⟨a, rfl, h1, q _ H1 s1 h2⟩
    · cases e2
  · subst e2
    exact ⟨O, P, δ, .error cx, rs, e1, q⟩
theorem ix_r1 (hm : X.mg "range" = none) (ha : PAs X E [a] fr) (hg : Gl X "range" := by rfl) (hs : starEach [a] X.env = [(false, eval a X.env)] := by rfl) : PIx X E tg (.Call (.Name "range" p) [a] [] pos) (iR1 fr) := PI.mono (pi_range1 hg hm ha hs) fun σ H R q => by
  obtain ⟨O, P, δ, r, rs, e, q⟩ := q
  rcases zze e with ⟨xs, e1, e2⟩ | ⟨cx, e1, e2⟩
  · refine ⟨O, P, δ, .ok xs, rs, e1, fun vs H1 s1 rx => ?_⟩
    split at e2
    · split at e2
      · rename_i h
        cases e2
        cases rx with
        | cons r1 rr =>
          cases rr
          cases r1
          exact ⟨_, rfl, h.1, h.2, q _ H1 s1 (it_range 0 _)⟩
      · cases e2
    · cases e2
  · subst e2
    exact ⟨O, P, δ, .error cx, rs, e1, q⟩
theorem ix_r2 (hm : X.mg "range" = none) (ha : PAs X E [a, b] fr) (hg : Gl X "range" := by rfl) (hs : starEach [a, b] X.env = [(false, eval a X.env), (false, eval b X.env)] := by rfl) (hs2 : starEach [b] X.env = [(false, eval b X.env)] := by rfl) :
    PIx X E tg (.Call (.Name "range" p) [a, b] [] pos) (iR2 fr) := PI.mono (pi_range2 hg hm ha hs hs2) fun σ H R q => by
  obtain ⟨O, P, δ, r, rs, e, q⟩ := q
  rcases zze e with ⟨xs, e1, e2⟩ | ⟨cx, e1, e2⟩
  · refine ⟨O, P, δ, .ok xs, rs, e1, fun vs H1 s1 rx => ?_⟩
    split at e2
    · split at e2
      · rename_i h
        cases e2
        cases rx with
        | cons r1 rr =>
          cases rr with
          | cons r2 rr =>
            cases rr
            cases r1
            cases r2
            exact ⟨_, _, rfl, h, q _ H1 s1 (it_range _ _)⟩
      · cases e2
    · cases e2
  · subst e2
    exact ⟨O, P, δ, .error cx, rs, e1, q⟩
end
noncomputable def lpo (G : DS → M Out) (o : Out) : M Out := match o with
  | .nx δ => G δ
  | .ct δ => G δ
  | .bk δ => rt (.nx δ)
  | .rt x => rt (.rt x)
@[simp] theorem lpo_nx (G : DS → M Out) (δ : DS) : lpo G (.nx δ) = G δ := rfl
@[simp] theorem lpo_ct (G : DS → M Out) (δ : DS) : lpo G (.ct δ) = G δ := rfl
@[simp] theorem lpo_bk (G : DS → M Out) (δ : DS) : lpo G (.bk δ) = rt (.nx δ) := rfl
@[simp] theorem lpo_rt (G : DS → M Out) (x : DV) : lpo G (.rt x) = rt (.rt x) := rfl
noncomputable def loopD (sf : D → DS → Option DS) (B : DS → M Out) : List D → DS → M Out
  | [], δ => rt (.nx δ)
  | d :: r, δ => bd (op (sf d δ)) fun δ1 => bd (B δ1) (lpo (loopD sf B r))
noncomputable def fFor (fi : DS → M (List D)) (sf : D → DS → Option DS) (B : DS → M Out) (δ : DS) : M Out := bd (fi δ) fun xs => loopD sf B xs δ
section
variable {X : Cx} {E : XK} {tg iter : Expr} {body : List Stmt} {fi : DS → M (List D)} {g : TG} {sf : D → DS → Option DS} {B : DS → M Out} {pos : Pos}
theorem st_for (hp : PassesOwn (model X.prog X.w) X.A X.env X.xe) (hc : X.calm = true) (hi : PIx X E tg iter fi) (hg : PG X tg g) (ht : TgV g sf) (hb : PSd X E body B)
    (hs : ∀ x, foldedSetIterable iter X.env x = pure x := by intro _; rfl) : PSt X E (.For tg iter body [] pos) (fFor fi sf B) := PS.mono (ps_for hp hc hi hg hb hs) fun T σ H q => by
  obtain ⟨O, P, δ, r, rs, e, q⟩ := q
  rcases zze e with ⟨xs, e1, e2⟩ | ⟨cx, e1, e2⟩
  · refine ⟨O, P, δ, .ok xs, rs, e1, fun J H1 s1 it => ?_⟩
    refine ⟨fun i m σ' H' => m = xs.length - i ∧ i ≤ xs.length ∧ ∃ P' δ', Kp P H1 P' H' ∧ RS O P' H' σ' δ' ∧ loopD sf B (xs.drop i) δ' = some r, ⟨xs.length, by simp, Nat.zero_le _, P, δ, .refl, rs.same s1, e2⟩, ?_⟩
    rintro i m σ' H' ⟨rfl, hi, P', δ', k, rs', el⟩
    have q' := q.on ((Kp.same s1).trans k)
    by_cases hlt : i < xs.length
    · obtain ⟨go, yl⟩ := (it i P' H' k).1 xs[i] (by simp [hlt])
      refine .inr ⟨go, fun σ2 H2 => ∃ P2 δ2, Kp P H1 P2 H2 ∧ RS O P2 H2 σ2 δ2 ∧ loopD sf B (xs.drop (i + 1)) δ2 = some r, fun σ2 H2 ⟨P2, δ2, h1, h2, h3⟩ => ⟨xs.length - (i + 1), by lia, rfl, hlt, P2, δ2, h1, h2, h3⟩, fun x H2 hy => ?_⟩
      obtain ⟨rfl, rx⟩ := yl x H2 hy
      rw [List.drop_eq_getElem_cons hlt] at el
      obtain ⟨δ1, e3, e4⟩ := bd_op el
      refine ht O P' H2 σ' δ' δ1 _ x _ rs' rx e3 fun σ1 rs1 => ?_
      rcases zze e4 with ⟨o, e5, e6⟩ | ⟨cx, e5, e6⟩
      · refine ⟨O, P', δ1, .ok o, rs1, e5, ?_⟩
        cases o with
        | nx δ2 => exact fun σ2 H3 P2 k2 rs2 => ⟨P2, δ2, k.trans k2, rs2, e6⟩
        | ct δ2 => exact fun σ2 H3 P2 k2 rs2 => ⟨P2, δ2, k.trans k2, rs2, e6⟩
        | bk δ2 => cases e6; exact q'
        | rt y => cases e6; exact q'
      · subst e6
        exact ⟨O, P', δ1, .error cx, rs1, e5, q'⟩
    · have hin : i = xs.length := by lia
      subst hin
      rw [List.drop_length] at el
      cases el
      exact .inl ⟨(it _ P' H' k).2 (Nat.le_refl _), q' σ' H' P' .refl rs'⟩
  · subst e2
    exact ⟨O, P, δ, .error cx, rs, e1, fun dx H' s => q dx H' P (.same s)⟩
end
noncomputable def subD (k : Nat) (js : List Nat) (δ : DS) : DS := List.replicate k none ++ js.map fun j => (δ[j]?).join
theorem getJoin {α : Type} {o : Option (Option α)} {x : α} (h : o.join = some x) : o = some (some x) := by
  cases o with
  | none => cases h
  | some z => simp only [Option.join] at h; rw [← h]; rfl
theorem RS.block {O P : List Addr} {H : Hp} {σ : St} {δ : DS} (r : RS O P H σ δ) (k : Nat) (js : List Nat) (hj : js.Nodup) : RS O P H (subSt k js σ) (subD k js δ) := by
  have at0 : ∀ (i : Nat) (x : DV), (subD k js δ)[i]? = some (some x) → k ≤ i ∧ ∃ j, js[i - k]? = some j ∧ δ[j]? = some (some x) := fun i x h => by
    unfold subD at h
    by_cases hi : i < k
    · rw [List.getElem?_append_left (by simpa using hi), List.getElem?_replicate] at h
      split at h <;> cases h
    · rw [List.getElem?_append_right (by simpa using hi), List.length_replicate, List.getElem?_map] at h
      cases e : js[i - k]? with
      | none => rw [e] at h; cases h
      | some j =>
        rw [e] at h
        exact ⟨by lia, j, rfl, getJoin (Option.some.inj h)⟩
  have sg : ∀ (i j : Nat), k ≤ i → js[i - k]? = some j → (subSt k js σ)[i]? = some ((σ[j]?).join) := fun i j hi e => by
    unfold subSt
    rw [List.getElem?_append_right (by simpa using hi), List.length_replicate, List.getElem?_map, e]
    rfl
  refine ⟨by unfold subSt subD; simp, r.dom, r.apart, fun i x h => ?_, fun i j x y v w c h1 h2 h3 h4 o1 o2 => ?_⟩
  · obtain ⟨hi, j, ej, ed⟩ := at0 i x h
    obtain ⟨v, e1, e2, e3⟩ := r.at' j x ed
    exact ⟨v, by rw [sg i j hi ej, e1]; rfl, e2, e3⟩
  · obtain ⟨hi, i', ei, di⟩ := at0 i _ h1
    obtain ⟨hj', j', ej, dj⟩ := at0 j _ h2
    rw [sg i i' hi ei] at h3
    rw [sg j j' hj' ej] at h4
    have := r.one i' j' x y v w c di dj (getJoin (Option.some.inj h3)) (getJoin (Option.some.inj h4)) o1 o2
    subst this
    obtain ⟨l1, g1⟩ := List.getElem?_eq_some_iff.mp ei
    obtain ⟨l2, g2⟩ := List.getElem?_eq_some_iff.mp ej
    have := (List.getElem_inj hj).mp (g1.trans g2.symm)
    lia
noncomputable def compD (sf : D → DS → Option DS) (gc : DS → M Bool) (fe : DS → M DV) (δ : DS) : List D → Option (List D)
  | [] => some []
  | d :: r => match sf d δ with
    | none => none
    | some δ1 => match gc δ1 with
      | some (.ok false) => compD sf gc fe δ r
      | some (.ok true) => match fe δ1 with
        | some (.ok y) => match asD y, compD sf gc fe δ r with
          | some z, some zs => some (z :: zs)
          | _, _ => none
        | _ => none
      | _ => none
noncomputable def bYes (_ : DS) : M Bool := rt true
noncomputable def eComp (k : Nat) (js : List Nat) (fi : DS → M (List D)) (sf : D → DS → Option DS) (gc : DS → M Bool) (fe : DS → M DV) (δ : DS) : M DV := bd (fi δ) fun xs => if xs.length ≤ 1000000 then bd (op (compD sf gc fe (subD k js δ) xs)) fun ys => rt (.new ys) else none
theorem pf_yes {X : Cx} : PF X [] (tBo E0 bYes) := fun pins s σ H Q I q => pf_nil pins s σ H Q I (by
  obtain ⟨O, P, δ, r, rs, e, q⟩ := q
  cases e
  exact q H (Same.refl H))
theorem compD_len {sf : D → DS → Option DS} {gc : DS → M Bool} {fe : DS → M DV} {δ : DS} : ∀ {xs ys : List D}, compD sf gc fe δ xs = some ys → ys.length ≤ xs.length
  | [], ys, h => by cases h; simp
  | d :: r, ys, h => by
    unfold compD at h
    split at h
    · cases h
    · split at h
      · have := compD_len (xs := r) h
        simp; lia
      · split at h
        · split at h
          · rename_i z zs e1 e2
            cases h
            have := compD_len (xs := r) e2
            simp; lia
          · cases h
        · cases h
      · cases h
section
variable {X : Cx} {E : XK} {k : Nat} {js : List Nat} {N' : List Str} {scope : Scope} {elt tg iter : Expr} {ifs : List Expr} {pos : Pos} {fi : DS → M (List D)} {g : TG} {sf : D → DS → Option DS} {gc : DS → M Bool} {fe : DS → M DV}
theorem comp_read (hj : js.Nodup) (ht : TgV g sf) (hsub : ∀ δ d δ1, sf d (subD k js δ) = some δ1 → Sub (subD k js δ) δ1) {σ : St} {H : Hp} {Q : VK} (q : tE E (eComp k js fi sf gc fe) σ H Q) : tComp (tI E fi) k js g (tBo E0 gc) (tE E0 fe) σ H Q := by
  obtain ⟨O, P, δ, r, rs, e, q⟩ := q
  rcases zze e with ⟨xs, e1, e2⟩ | ⟨cx, e1, e2⟩
  · refine ⟨O, P, δ, .ok xs, rs, e1, fun J H1 s1 it => ?_⟩
    split at e2
    · rename_i hz
      obtain ⟨ys, e3, e4⟩ := bd_op e2
      cases e4
      have hlen := compD_len e3
      refine ⟨fun i m σ' H' vs => m = xs.length - i ∧ i ≤ xs.length ∧ Same H1 H' ∧ RS O P H' σ' (subD k js δ) ∧ ∃ ds es, RpL (P ++ O) H' ds vs ∧ compD sf gc fe (subD k js δ) (xs.drop i) = some es ∧ ys = ds ++ es,
        ⟨xs.length, by simp, Nat.zero_le _, Same.refl H1, (rs.same s1).block k js hj, [], ys, .nil, e3, rfl⟩, ?_⟩
      rintro i m σ' H' vs ⟨rfl, hi, sH, rs', ds, es, l, ec, ey⟩
      have hvl : vs.length ≤ ys.length := by rw [ey, ← l.length]; simp
      by_cases hlt : i < xs.length
      · refine .inr ?_
        rw [List.drop_eq_getElem_cons hlt] at ec
        unfold compD at ec
        obtain ⟨go, yl⟩ := (it i P H' (.same sH)).1 xs[i] (by simp [hlt])
        split at ec
        · cases ec
        · rename_i δ1 e5
          refine ⟨go, Nat.lt_of_le_of_lt (Nat.le_trans hvl (Nat.le_trans hlen hz)) (by rw [sizeLine_eq]; decide), fun x H2 hy => ?_⟩
          obtain ⟨rfl, rx⟩ := yl x H2 hy
          refine ht O P H2 σ' _ δ1 _ x _ rs' rx e5 fun σ1 rs1 => ?_
          have hsb := hsub δ _ δ1 e5
          split at ec
          · rename_i e6
            refine ⟨O, P, δ1, .ok false, rs1, e6, fun H3 s3 => ?_⟩
            exact iteF ⟨xs.length - (i + 1), by lia, rfl, hlt, sH.trans s3, (rs1.same s3).forget hsb, ds, es, l.kp (.same s3), ec, ey⟩
          · rename_i e6
            refine ⟨O, P, δ1, .ok true, rs1, e6, fun H3 s3 => ?_⟩
            refine iteT ?_
            split at ec
            · rename_i y e7
              split at ec
              · rename_i z zs e8 e9
                cases ec
                refine ⟨O, P, δ1, .ok y, rs1.same s3, e7, fun v H4 s4 ry => ?_⟩
                refine ⟨xs.length - (i + 1), by lia, rfl, hlt, sH.trans (s3.trans s4), (rs1.same (s3.trans s4)).forget hsb, ds ++ [z], zs, (l.kp (.same (s3.trans s4))).append (.cons (ry.data (rs1.same s3).dom e8) .nil), e9, ?_⟩
                rw [ey, List.append_assoc]; rfl
              · cases ec
            · cases ec
          · cases ec
      · have hin : i = xs.length := by lia
        subst hin
        rw [List.drop_length] at ec
        cases ec
        refine .inl ⟨(it _ P H' (.same sH)).2 (Nat.le_refl _), Nat.le_trans hvl (zjv (Nat.le_trans hlen hz)), fun p hp => ?_⟩
        rw [ey, List.append_nil] at q
        exact q _ _ ((s1.trans sH).trans (same_upd hp)) (RE.made (s1.trans sH) hp l)
    · cases e2
  · subst e2
    exact ⟨O, P, δ, .error cx, rs, e1, q⟩
theorem px_comp (S : CompFit X k js N' scope) (hj : js.Nodup) (hc : X.calm = true) (hi : PIx X E tg iter fi) (ht : TgV g sf) (hsub : ∀ δ d δ1, sf d (subD k js δ) = some δ1 → Sub (subD k js δ) δ1)
    (hg : ∀ C s₂ H₂ fp, PG (zqk X N' scope C s₂ H₂ fp) tg g) (hf : ∀ C s₂ H₂ fp, PF (zqk X N' scope C s₂ H₂ fp) ifs (tBo E0 gc)) (he : ∀ C s₂ H₂ fp, PX (zqk X N' scope C s₂ H₂ fp) E0 elt fe)
    (hs : ∀ x, foldedSetIterable iter X.env x = pure x := by intro _; rfl) : PX X E (.ListComp elt [⟨tg, iter, ifs, 0⟩] scope pos) (eComp k js fi sf gc fe) :=
  PE.mono (pe_comp S hc hi hg hf he hs) fun σ H Q q => comp_read hj ht hsub q
end
end L3
set_option Elab.async false
set_option linter.all false
set_option maxRecDepth 100000
set_option maxHeartbeats 4000000
set_option autoImplicit false
namespace L3
open PySem PySem.Spec L2
open PyProof.Rows hiding St
noncomputable def dst (N : List Str) (xs : List DV) : DS := xs.map some ++ List.replicate (N.length - xs.length) none
noncomputable def res : DV → DV
  | .own xs => .new xs
  | .tpo p xs q => .nwt p xs q
  | x => x
@[simp] theorem res_d (x : D) : res (.d x) = .d x := rfl
@[simp] theorem res_tpo (p xs q : List D) : res (.tpo p xs q) = .nwt p xs q := rfl
@[simp] theorem res_nwt (p xs q : List D) : res (.nwt p xs q) = .nwt p xs q := rfl
@[simp] theorem zyy (xs : List D) : res (.own xs) = .new xs := rfl
@[simp] theorem zyj (xs : List D) : res (.new xs) = .new xs := rfl
@[simp] theorem zqb (C : Addr) (fs : List (Str × D)) : res (.ob C fs) = .ob C fs := rfl
noncomputable def outR : Out → M DV
  | .rt x => rt (res x)
  | .nx _ => rt (.d .none)
  | _ => none
@[simp] theorem zyc (x : DV) : outR (.rt x) = rt (res x) := rfl
@[simp] theorem zxh (δ : DS) : outR (.nx δ) = rt (.d .none) := rfl
noncomputable def mir (N : List Str) (F : DS → M Out) (xs : List DV) : M DV := bd (F (dst N xs)) outR
theorem RS.start {N : List Str} {O : List Addr} {H : Hp} {xs : List DV} {vs : List V} (dom : ∀ a, a ∈ O → ∃ o, H a = some o) (r : REs O [] H H xs vs) : RS O [] H (L2.start N vs) (dst N xs) := by
  have hl : xs.length = vs.length := Paired.length r
  have at0 : ∀ (i : Nat) (x : DV), (dst N xs)[i]? = some (some x) → xs[i]? = some x := fun i x h => by
    unfold dst at h
    by_cases hi : i < xs.length
    · rw [List.getElem?_append_left (by simpa using hi), List.getElem?_map] at h
      cases e : xs[i]? with
      | none => rw [e] at h; cases h
      | some y => rw [e] at h; cases h; rfl
    · rw [List.getElem?_append_right (by simpa using hi), List.getElem?_replicate] at h
      split at h <;> cases h
  have gets : ∀ {xs : List DV} {vs : List V}, REs O [] H H xs vs → ∀ (i : Nat) (x : DV), xs[i]? = some x → ∃ v, vs[i]? = some v ∧ RE O [] H H x v := by
    intro xs vs r
    induction r with
    | nil => intro i x h; simp at h
    | cons r1 _ ih =>
      intro i x h
      cases i with
      | zero => simp at h; subst h; exact ⟨_, rfl, r1⟩
      | succ i => simpa using ih i x (by simpa using h)
  have sv : ∀ (i : Nat) (v : V), vs[i]? = some v → (L2.start N vs)[i]? = some (some v) := fun i v h => by
    have hi : i < vs.length := (List.getElem?_eq_some_iff.mp h).1
    unfold L2.start
    rw [List.getElem?_append_left (by simpa using hi), List.getElem?_map, h]; rfl
  refine ⟨by unfold L2.start dst; simp [hl], fun a ha => dom a ha, fun a ha => (by cases ha), fun i x h => ?_, fun i j y z v w c h1 h2 h3 h4 o1 o2 => ?_⟩
  · obtain ⟨v, e1, e2⟩ := gets r i x (at0 i x h)
    refine ⟨v, sv i v e1, fun ys hx => ?_, e2⟩
    subst hx
    obtain ⟨a, us, _, hn, ha, _⟩ := e2
    rw [hn] at ha; cases ha
  · obtain ⟨v', e1, e2⟩ := gets r i _ (at0 i _ h1)
    rw [sv i v' e1] at h3
    cases h3
    cases o1.new e2
theorem RE.out {O P' : List Addr} {H H1 H' : Hp} {x : DV} {v : V} (k : Kp [] H P' H1) (s : Same H1 H') (r : RE O P' H1 H' x v) : Same H H' ∧ RE O [] H H' (res x) v := by
  have sH : Same H H' := fun b o e => s b o (k.keep b o (by simp) e)
  have sub : ∀ a, a ∈ ([] : List Addr) ++ O → a ∈ P' ++ O := fun a ha => List.mem_append_right _ ha
  refine ⟨sH, ?_⟩
  cases x with
  | d x => exact Rp.kp (.sub sub) r
  | ob C fs => exact ObR.kp (.sub sub) r
  | tbl kvs => exact TbR.kp (.sub sub) r
  | ex q => exact r
  | tpo p xs q =>
    obtain ⟨t, a, ps, vs, qs, e, hz, ht, hP, ha, l1, l2, l3⟩ := r
    have sb : ∀ b, b ∈ a :: ([] ++ O) → b ∈ P' ++ O := fun b hb => by
      rcases List.mem_cons.mp hb with z | z
      · exact List.mem_append_left _ (z ▸ hP)
      · exact sub b z
    refine ⟨t, a, ps, vs, qs, e, fun h => hz (sb t h), ht, ?_, ha, l1.kp (.sub sb), l2.kp (.sub sb), l3.kp (.sub sb)⟩
    rcases k.new a hP with z | z
    · cases z
    · exact z
  | nwt p xs q =>
    obtain ⟨t, a, ps, vs, qs, e, hz, ht, hn, ha, l1, l2, l3⟩ := r
    have sb : ∀ b, b ∈ a :: ([] ++ O) → b ∈ a :: (P' ++ O) := fun b hb => by
      rcases List.mem_cons.mp hb with z | z
      · exact z ▸ List.mem_cons_self
      · exact List.mem_cons_of_mem _ (sub b z)
    refine ⟨t, a, ps, vs, qs, e, fun h => hz (sb t h), ht, ?_, ha, l1.kp (.sub sb), l2.kp (.sub sb), l3.kp (.sub sb)⟩
    cases q : H a with
    | none => rfl
    | some o => rw [k.keep a o (by simp) q] at hn; cases hn
  | own xs =>
    obtain ⟨a, vs, e, hP, ha, l⟩ := r
    refine ⟨a, vs, e, ?_, ha, l.kp (.sub fun b hb => ?_)⟩
    · rcases k.new a hP with z | z
      · cases z
      · exact z
    · rcases List.mem_cons.mp hb with z | z
      · exact List.mem_append_left _ (z ▸ hP)
      · exact sub b z
  | new xs =>
    obtain ⟨a, vs, e, hn, ha, l⟩ := r
    refine ⟨a, vs, e, ?_, ha, l.kp (.sub fun b hb => ?_)⟩
    · cases q : H a with
      | none => rfl
      | some o => rw [k.keep a o (by simp) q] at hn; cases hn
    · rcases List.mem_cons.mp hb with z | z
      · exact z ▸ List.mem_cons_self
      · exact List.mem_cons_of_mem _ (sub b z)
  | scr K ns =>
    obtain ⟨a, e, hz⟩ := r
    exact ⟨a, e, hz.imp (fun z => ⟨fun h => z.1 (sub a h), z.2⟩) fun z => z⟩
section
variable {P : Program} {w : World} {K : PySem.W.Frag} {mg : Str → Option Value} {base : Heap}
theorem fn0 {x qual : Str} {st : Stmt} {f : Addr} {fd : FuncData} {N ps : List Str} {k n : Nat} {F : DS → M Out} (Fu : Fun K x qual st f fd) (S : FnScope N ps (zzj st)) (hn : ps.length = n)
    (body : ∀ (cdv : Value) (A : Around) (outer : List Env) (s : Shared) (H : Hp) (E : XK), Room k (A.deeper (envOfC qual (zzj st) s.heap.objs.size f cdv)) →
      PSd (cxOf CX0 P w K mg base N qual (zzj st) f cdv A outer s H E).nox E0 (zxa st) F) : FnOk P w K mg base CX0 (k + 1) f fd ps (sp0 n (mir N F)) := by
  refine Fu.ok S (fun vs H Q E h => h.1.trans hn.symm) fun cdv A outer s H vs Q E hr hsp => ⟨_, body cdv A outer s H E hr, ?_⟩
  obtain ⟨_, O, xs, x, dom, rx, e, q⟩ := hsp
  rcases zze e with ⟨o, e1, e2⟩ | ⟨c, _, e2⟩
  · refine ⟨O, [], dst N xs, .ok o, RS.start dom rx, e1, ?_⟩
    cases o with
    | rt y =>
      cases e2
      intro v H1 H' P' k' s' _ _ ry
      obtain ⟨sH, ry'⟩ := ry.out k' s'
      exact q v H' sH ry'
    | nx δ =>
      cases e2
      intro σ' H' P' k' _
      exact q .non H' (fun b o e => k'.keep b o (by simp) e) .none
    | bk δ => cases e2
    | ct δ => cases e2
  · cases e2
end
section
variable {X : Cx} {E : XK} {o e : Expr} {fo fe : DS → M DV}
noncomputable def bools : List D → Option (List Bool)
  | [] => some []
  | .bool b :: r => (bools r).map (b :: ·)
  | _ :: _ => none
theorem bools_get : ∀ {xs : List D} {bs : List Bool}, bools xs = some bs → xs = bs.map PyData.bool
  | [], bs, h => by cases h; rfl
  | x :: r, bs, h => by
    cases x with
    | bool b =>
      unfold bools at h
      cases e : bools r with
      | none => rw [e] at h; cases h
      | some cs => rw [e] at h; cases h; rw [bools_get e]; rfl
    | _ => cases h
theorem bools_map (bs : List Bool) : bools (bs.map PyData.bool) = some bs := by
  induction bs with
  | nil => rfl
  | cons b r ih => rw [List.map_cons, bools, ih]; rfl
noncomputable def gAll (xs : List DV) : M DV := match xs with
  | [x] => bd (op (asL x)) fun ys => bd (op (bools ys)) fun bs => rt (.d (.bool (bs.all id)))
  | _ => none
theorem vals_bools {Z : List Addr} {H : Hp} : ∀ {bs : List Bool} {vs : List V} {us : List Value}, RpL Z H (bs.map PyData.bool) vs → Vals vs us → us = bs.map Value.bool
  | [], _, _, .nil, .nil => rfl
  | b :: r, _, _, .cons p l, .cons q t => by
    cases p
    cases q
    rw [List.map_cons, vals_bools l t]
theorem all_range (bs : List Bool) : ((List.range bs.length).all fun i => (bs[i]?).getD true) = bs.all id := by
  induction bs with
  | nil => rfl
  | cons b r ih =>
    rw [List.length_cons, List.range_succ_eq_map, List.all_cons, List.all_map, List.all_cons]
    have : (r.all id) = ((List.range r.length).all fun i => (r[i]?).getD true) := ih.symm
    rw [this]
    congr 1
theorem cv_all (hc : X.calm = true) : CallV X E (.builtin "all") gAll := fun pins s σ O P H₀ H xs vs us r Q I hd hs rx rv e q => by
  unfold gAll at e
  split at e
  · obtain ⟨ys, e1, e2⟩ := bd_op e
    obtain ⟨bs, e3, e4⟩ := bd_op e2
    cases e4
    cases rx with
    | cons r1 rr =>
      cases rr
      obtain ⟨a, ws, rfl, ha, l⟩ := r1.list e1
      cases rv with
      | cons q1 q2 =>
        cases q2
        cases q1
        have hys := bools_get e3
        subst hys
        obtain ⟨its, ri, pl, hz⟩ := I.list (SqL.of ha)
        have hits := vals_bools l ri
        have hlt : a < s.heap.objs.size := by obtain ⟨_, e', _⟩ := pl.isList; exact Heap.lt_size e'
        have hlist := pl.isList
        refine call_all_walk (wpAny_pyIter_list hlist ?_)
        refine ⟨s.heap.objs.size, [s.heap.objs.size, a], [s.heap.objs.size], its.toArray.size, _, _, fun i => (bs[i]?).getD true, rfl, Walks.list (A := X.A.in1) (I.ok.hd hc) _ a (Nat.ne_of_lt hlt) its.toArray,
          ⟨⟨_, Heap.get?_push_size _ rfl, rfl, rfl⟩, hlist.push _⟩, fun i v s' Q' E' hP hQ => ?_, fun h' tk hk => ?_⟩
        · have hv : (bs[i]?).map Value.bool = some v := by
            have hP' : its.toArray[i]? = some v := hP
            rw [← hP', hits]; simp
          cases eb : bs[i]? with
          | none => rw [eb] at hv; cases hv
          | some b =>
            rw [eb] at hv
            cases hv
            simp only [eb, Option.getD_some] at hQ
            exact wpAny_truthy_bool hQ
        · have hn : its.toArray.size = bs.length := by rw [hits]; simp
          rw [hn, all_range]
          refine ⟨.bl _, H, I.kept (t' := tk) fun b ob eb => hk b ob (fun hm => ?_) (Heap.get?_push_of_some _ eb), rfl, q _ H (Same.refl H) (.bool _)⟩
          rw [List.mem_singleton.mp hm] at eb
          exact Nat.lt_irrefl _ (Heap.lt_size eb)
  · cases e
noncomputable def gCnt (x y : DV) : M DV := match asL x, asQ y with
  | some xs, some d => if d.depth ≤ 60 then rt (.d (.int (xs.countP fun z => PyData.eqv z d))) else none
  | _, _ => none
noncomputable def eCnt (fo fe : DS → M DV) (δ : DS) : M DV := bd (fo δ) fun x => bd (op (asL x)) fun _ => bd (fe δ) fun y => gCnt x y
noncomputable def rCnt (E : XK) (x : V) (vs : List V) (H : Hp) (Q : VK) : Prop := ∃ O P H₀ dx dy v r, vs = [v] ∧ RE O P H₀ H dx x ∧ RE O P H₀ H dy v ∧ gCnt dx dy = some r ∧ Fn E O P H₀ H Q r
theorem mt_count (hu : X.A.units + 64 < cLine) : MtR X "list.count" (rCnt E) := fun pins s σ H x xs v us Q I rx rs h => by
  obtain ⟨O, P, H₀, dx, dy, w, r, rfl, r1, r2, e, q⟩ := h
  obtain ⟨u, rfl, ru⟩ := vals1 rs
  unfold gCnt at e
  split at e
  · rename_i ys d h1 h2
    split at e
    · rename_i hdp
      cases e
      obtain ⟨a, ws, rfl, ha, l⟩ := r1.list h1
      cases rx
      obtain ⟨⟨as, ra⟩, la⟩ := r2.reads I ru h2
      obtain ⟨its, ri, pl, hz⟩ := I.list (SqL.of ha)
      obtain ⟨bs, rb⟩ := RpL.reads I l ri
      obtain ⟨⟨cls, dd, data, sl⟩, ho, hc, n, hd⟩ := pl.isList
      simp only at hc hd
      subst hc hd
      refine call_meets PySem.F.slot_list_count ⟨_, ho, rfl⟩ PySem.F.entry_list_count (PySem.F.args_list_count_2 _ _) (SeqAt.list_countAt a its.toArray n dd sl u fun y => PyData.eqv (SeqAt.readOf s.heap y) d)
        ⟨ho, SeqAt.items_eqAt (vs := its.toArray) rb ra l.lay la (by have := Nat.min_le_right (PyData.depthAll ys) d.depth; lia), ?_⟩
      have hcount : its.toArray.toList.countP (fun y => PyData.eqv (SeqAt.readOf s.heap y) d) = ys.countP fun z => PyData.eqv z d := by
        rw [← SeqAt.readsAll_map ys _ _ l.lay rb, List.countP_map]; rfl
      rw [hcount]
      exact ⟨.int _, H, I.tok _, ⟨_, rfl⟩, q _ H (Same.refl H) (.int _)⟩
    · cases e
  · cases e
theorem px_count {apos cpos : Pos} (hu : X.A.units + 64 < cLine) (ho : PX X E o fo) (he : PX X E e fe)
    (hbase : attributeBase o "count" X.env (eval o X.env) = eval o X.env := by rfl)
    (hfew : ((backTo cpos (starEach [e] X.env)).all (fun x => !x.1) && (backToKw cpos (keywordEach [] X.env)).all (fun x => x.1.isSome)
      && decide ([e].length + ([] : List Keyword).length + (if ([] : List Keyword).isEmpty then 0 else 1) < 30)) = true := by rfl)
    (hline : (apos.endLine == cpos.line) = true := by rfl) (hs : starEach [e] X.env = (false, eval e X.env) :: starEach [] X.env := by rfl) (hplain : (backTo cpos (starEach [] X.env)).any (·.1) = false := by rfl) :
    PX X E (.Call (.Attribute o "count" apos) [e] [] cpos) (eCnt fo fe) :=
  PE.mono (pe_bm PySem.F.plainAttrs_list PySem.F.slot_list_count PySem.F.type_list_count (mt_count (E := E) hu) ho (pa_cons he pa_nil hs) hbase hfew hline hs hplain) fun σ H Q q =>
    tE_bd (g := fun δ x => bd (op (asL x)) fun _ => bd (fe δ) fun y => gCnt x y) q fun O P δ x r v H1 rs rs1 s1 rx e q => by
      obtain ⟨ys, h1, e⟩ := bd_op e
      obtain ⟨a, ws, rfl, ha, _⟩ := rx.list h1
      refine ⟨.inl ⟨rfl, _, SqL.of ha⟩, ?_⟩
      rcases zze e with ⟨y, e1, e2⟩ | ⟨c, e1, e2⟩
      · exact ⟨O, P, δ, .ok y, rs1, e1, fun u H2 s2 ry => ⟨O, P, H, x, y, u, r, rfl, rx.on s2, ry.from s1, e2, q.on s2⟩⟩
      · subst e2
        exact ⟨O, P, δ, .error c, rs1, e1, q⟩
end
end L3
set_option Elab.async false
set_option linter.all false
set_option maxRecDepth 100000
set_option maxHeartbeats 4000000
set_option autoImplicit false
namespace L3
open PySem PySem.Spec L2
open PyProof.Rows hiding St
open PySem.W (KasT kas_asc kas_desc kas_tail3 kas_descPart kas_count kas_place kas_bin kas_sort kas_rev)
noncomputable abbrev ll := HT.lexLt
theorem ll_irr : ∀ a : List Int, ll a a = false
  | [] => rfl
  | x :: r => by
    show HT.lexLt (x :: r) (x :: r) = false
    rw [HT.lexLt_cons, if_pos rfl]
    exact ll_irr r
theorem ll_tri : ∀ {a b : List Int}, ll a b = false → ll b a = false → a = b
  | [], [], _, _ => rfl
  | [], _ :: _, h, _ => by cases h
  | _ :: _, [], _, h => by cases h
  | x :: xs, y :: ys, h1, h2 => by
    have e1 : HT.lexLt (x :: xs) (y :: ys) = false := h1
    have e2 : HT.lexLt (y :: ys) (x :: xs) = false := h2
    rw [HT.lexLt_cons] at e1 e2
    by_cases h : x = y
    · subst h
      rw [if_pos rfl] at e1 e2
      rw [ll_tri e1 e2]
    · rw [if_neg h] at e1
      rw [if_neg (Ne.symm h)] at e2
      have := of_decide_eq_false e1
      have := of_decide_eq_false e2
      lia
theorem ll_trans : ∀ {a b c : List Int}, ll a b = true → ll b c = true → ll a c = true
  | [], [], _, h, _ => by cases h
  | [], _ :: _, [], _, h => by cases h
  | [], _ :: _, _ :: _, _, _ => rfl
  | _ :: _, [], _, h, _ => by cases h
  | _ :: _, _ :: _, [], _, h => by cases h
  | x :: xs, y :: ys, z :: zs, h1, h2 => by
    have e1 : HT.lexLt (x :: xs) (y :: ys) = true := h1
    have e2 : HT.lexLt (y :: ys) (z :: zs) = true := h2
    show HT.lexLt (x :: xs) (z :: zs) = true
    rw [HT.lexLt_cons] at e1 e2 ⊢
    by_cases h : x = y
    · subst h
      rw [if_pos rfl] at e1
      by_cases h' : x = z
      · subst h'
        rw [if_pos rfl] at e2 ⊢
        exact ll_trans e1 e2
      · rw [if_neg h'] at e2 ⊢
        exact e2
    · rw [if_neg h] at e1
      have l1 := of_decide_eq_true e1
      by_cases h' : y = z
      · subst h'
        rw [if_neg h]; exact e1
      · rw [if_neg h'] at e2
        have l2 := of_decide_eq_true e2
        rw [if_neg (by lia)]
        exact decide_eq_true (by lia)
theorem ll_asym {a b : List Int} (h : ll a b = true) : ll b a = false := by
  cases e : ll b a with
  | false => rfl
  | true =>
    have := ll_trans h e
    rw [ll_irr] at this; cases this
theorem nl_trans {a b c : List Int} (h1 : ll b a = false) (h2 : ll c b = false) : ll c a = false := by
  cases e : ll c a with
  | false => rfl
  | true =>
    cases e2 : ll a b with
    | true => rw [ll_trans e e2] at h2; cases h2
    | false =>
      have := ll_tri e2 h1
      subst this
      rw [e] at h2; cases h2
theorem ll_of_le {a b c : List Int} (h1 : ll a b = true) (h2 : ll c b = false) : ll a c = true := by
  cases e2 : ll b c with
  | true => exact ll_trans h1 e2
  | false =>
    have := ll_tri e2 h2
    subst this; exact h1
noncomputable def krun {α : Type} (c : Nat → Nat → Bool) : KasT α → α
  | .ret a => a
  | .ask i j k => krun c (k (c i j))
theorem krun_bind {α β : Type} {c : Nat → Nat → Bool} {f : α → KasT β} : ∀ t : KasT α, krun c (t.bind f) = krun c (f (krun c t))
  | .ret a => rfl
  | .ask i j k => krun_bind (k (c i j))
section
variable (key : Nat → List Int)
noncomputable def cK (i j : Nat) : Bool := ll (key i) (key j)
noncomputable def Bk (p : Array Nat) (k : Nat) : List Int := key (p.getD k 0)
noncomputable def Up (p : Array Nat) (m : Nat) : Prop := ∀ i j, i ≤ j → j < m → ll (Bk key p j) (Bk key p i) = false
noncomputable def Dn (p : Array Nat) (m : Nat) : Prop := ∀ i j, i ≤ j → j < m → ll (Bk key p i) (Bk key p j) = false
variable {key}
theorem Up.step {p : Array Nat} {n : Nat} (h1 : 1 ≤ n) (h : Up key p n) (e : ll (Bk key p n) (Bk key p (n - 1)) = false) : Up key p (n + 1) := fun i j hij hj => by
  by_cases hjn : j = n
  · subst hjn
    by_cases hi : i = j
    · subst hi; exact ll_irr _
    · exact nl_trans (h i (j - 1) (by lia) (by lia)) e
  · exact h i j hij (by lia)
theorem Dn.step {p : Array Nat} {n : Nat} (h1 : 1 ≤ n) (h : Dn key p n) (e : ll (Bk key p (n - 1)) (Bk key p n) = false) : Dn key p (n + 1) := fun i j hij hj => by
  by_cases hjn : j = n
  · subst hjn
    by_cases hi : i = j
    · subst hi; exact ll_irr _
    · exact nl_trans e (h i (j - 1) (by lia) (by lia))
  · exact h i j hij (by lia)
theorem asc_ok {p : Array Nat} : ∀ (f n : Nat), 1 ≤ n → Up key p n → n ≤ krun (cK key) (kas_asc p f n) ∧ krun (cK key) (kas_asc p f n) ≤ n + f ∧ Up key p (krun (cK key) (kas_asc p f n)) ∧
    (krun (cK key) (kas_asc p f n) < n + f → ll (Bk key p (krun (cK key) (kas_asc p f n))) (Bk key p (krun (cK key) (kas_asc p f n) - 1)) = true)
  | 0, n, h1, h => ⟨Nat.le_refl _, Nat.le_refl _, h, fun q => absurd q (Nat.lt_irrefl _)⟩
  | f + 1, n, h1, h => by
    have e : krun (cK key) (kas_asc p (f + 1) n) = krun (cK key) (if ll (Bk key p n) (Bk key p (n - 1)) = true then .ret n else kas_asc p f (n + 1)) := rfl
    rw [e]
    cases c : ll (Bk key p n) (Bk key p (n - 1)) with
    | true => exact ⟨Nat.le_refl _, Nat.le_add_right _ _, h, fun _ => c⟩
    | false =>
      simp only [Bool.false_eq_true, if_false]
      obtain ⟨a1, a2, a3, a4⟩ := asc_ok f (n + 1) (by lia) (h.step h1 c)
      exact ⟨by lia, by lia, a3, fun q => a4 (by lia)⟩
theorem rev_at {p : Array Nat} {i j : Nat} (hj : j ≤ p.size) (k : Nat) : Bk key (kas_rev p i j) k = if i ≤ k ∧ k < j then Bk key p (i + j - 1 - k) else Bk key p k := by
  unfold Bk kas_rev
  have e := getElem?_mirror_all (xs := p) (i := i) hj k
  have g : ∀ (q : Array Nat) (m : Nat), q.getD m 0 = (q[m]?).getD 0 := fun q m => by simp [Array.getD_eq_getD_getElem?]
  rw [g, g, g, e]
  split <;> rfl
theorem rev_size {p : Array Nat} {i j : Nat} : (kas_rev p i j).size = p.size := mirror_size _ _ _ _
theorem rev_perm {p : Array Nat} {i j : Nat} : (kas_rev p i j).Perm p := mirror_perm _ _ _ _
theorem rev_eq {p : Array Nat} {i j : Nat} (hj : j ≤ p.size) (h : ∀ a b, i ≤ a → a < j → i ≤ b → b < j → Bk key p a = Bk key p b) (k : Nat) : Bk key (kas_rev p i j) k = Bk key p k := by
  rw [rev_at hj]
  split
  · exact h _ _ (by lia) (by lia) (by lia) (by lia)
  · rfl
theorem Dn.congr {p p' : Array Nat} {m : Nat} (h : Dn key p m) (e : ∀ k, Bk key p' k = Bk key p k) : Dn key p' m := fun i j a b => by rw [e, e]; exact h i j a b
theorem desc_ok : ∀ (f : Nat) (p : Array Nat) (n q : Nat), q + 1 ≤ n → n + f ≤ p.size → Dn key p n → (∀ a b, n - (q + 1) ≤ a → a < n → n - (q + 1) ≤ b → b < n → Bk key p a = Bk key p b) →
    let r := krun (cK key) (kas_desc f p n q)
    r.1.Perm p ∧ r.1.size = p.size ∧ n ≤ r.2.1 ∧ r.2.1 ≤ n + f ∧ r.2.2 + 1 ≤ r.2.1 ∧ Dn key r.1 r.2.1 ∧ (∀ a b, r.2.1 - (r.2.2 + 1) ≤ a → a < r.2.1 → r.2.1 - (r.2.2 + 1) ≤ b → b < r.2.1 → Bk key r.1 a = Bk key r.1 b)
  | 0, p, n, q, h1, hz, h, he => ⟨Array.Perm.refl _, rfl, Nat.le_refl _, Nat.le_refl _, h1, h, he⟩
  | f + 1, p, n, q, h1, hz, h, he => by
    have e : krun (cK key) (kas_desc (f + 1) p n q) = krun (cK key) (if ll (Bk key p n) (Bk key p (n - 1)) = true then (if q > 0 then kas_desc f (kas_rev p (n - (q + 1)) n) (n + 1) 0 else kas_desc f p (n + 1) 0)
      else .ask (p.getD (n - 1) 0) (p.getD n 0) fun d => if d = true then .ret (p, n, q) else kas_desc f p (n + 1) (q + 1)) := rfl
    intro r
    have er : r = krun (cK key) (kas_desc (f + 1) p n q) := rfl
    rw [e] at er
    cases c : ll (Bk key p n) (Bk key p (n - 1)) with
    | true =>
      rw [c] at er
      simp only [if_true] at er
      by_cases hq : q > 0
      · rw [if_pos hq] at er
        have eq := rev_eq (key := key) (p := p) (i := n - (q + 1)) (j := n) (by lia) he
        have hd : Dn key (kas_rev p (n - (q + 1)) n) (n + 1) := (h.step (by lia) (ll_asym c)).congr eq
        obtain ⟨a1, a2, a3, a4, a5, a6, a7⟩ := desc_ok f (kas_rev p (n - (q + 1)) n) (n + 1) 0 (by lia) (by rw [rev_size]; lia) hd (fun a b _ _ _ _ => by rw [show a = b by lia])
        rw [er]
        exact ⟨a1.trans rev_perm, a2.trans rev_size, by lia, by lia, a5, a6, a7⟩
      · rw [if_neg hq] at er
        obtain ⟨a1, a2, a3, a4, a5, a6, a7⟩ := desc_ok f p (n + 1) 0 (by lia) (by lia) (h.step (by lia) (ll_asym c)) (fun a b _ _ _ _ => by rw [show a = b by lia])
        rw [er]
        exact ⟨a1, a2, by lia, by lia, a5, a6, a7⟩
    | false =>
      rw [c] at er
      simp only [Bool.false_eq_true, if_false] at er
      have er2 : r = krun (cK key) (if ll (Bk key p (n - 1)) (Bk key p n) = true then .ret (p, n, q) else kas_desc f p (n + 1) (q + 1)) := er
      cases c2 : ll (Bk key p (n - 1)) (Bk key p n) with
      | true =>
        rw [c2] at er2
        simp only [if_true] at er2
        rw [er2]
        exact ⟨Array.Perm.refl _, rfl, Nat.le_refl _, Nat.le_add_right _ _, h1, h, he⟩
      | false =>
        rw [c2] at er2
        simp only [Bool.false_eq_true, if_false] at er2
        have hk : Bk key p (n - 1) = Bk key p n := ll_tri c2 c
        have hee : ∀ a, n + 1 - (q + 1 + 1) ≤ a → a < n + 1 → Bk key p a = Bk key p n := fun a l1 l2 => by
          by_cases ha : a = n
          · rw [ha]
          · rw [← hk]; exact he a (n - 1) (by lia) (by lia) (by lia) (by lia)
        obtain ⟨a1, a2, a3, a4, a5, a6, a7⟩ := desc_ok f p (n + 1) (q + 1) (by lia) (by lia) (h.step (by lia) c2) (fun a b l1 l2 l3 l4 => by rw [hee a l1 l2, hee b l3 l4])
        rw [er2]
        exact ⟨a1, a2, by lia, by lia, a5, a6, a7⟩
noncomputable def CntOk (key : Nat → List Int) (nrem : Nat) (p : Array Nat) (r : Nat × Array Nat) : Prop := r.2.Perm p ∧ r.2.size = p.size ∧ 1 ≤ r.1 ∧ r.1 ≤ nrem ∧ Up key r.2 r.1
theorem tail3_ok {n nrem : Nat} {p : Array Nat} (h1 : 1 ≤ n) (hn : n ≤ nrem) (hz : nrem ≤ p.size) (h : Dn key p n) : CntOk key nrem p (krun (cK key) (kas_tail3 n nrem p)) := by
  unfold kas_tail3
  rw [krun_bind]
  have up : Up key (kas_rev p 0 n) n := fun i j hij hj => by
    rw [rev_at (by lia), rev_at (by lia), if_pos (by lia), if_pos (by lia)]
    exact h _ _ (by lia) (by lia)
  obtain ⟨a1, a2, a3, _⟩ := asc_ok (key := key) (p := kas_rev p 0 n) (nrem - n) n h1 up
  exact ⟨rev_perm, rev_size, Nat.le_trans h1 a1, by show krun _ _ ≤ _; lia, a3⟩
theorem descPart_ok {n nrem : Nat} {p : Array Nat} (h1 : 1 ≤ n) (hn : n + 1 ≤ nrem) (hz : nrem ≤ p.size) (h : Dn key p (n + 1)) : CntOk key nrem p (krun (cK key) (kas_descPart n nrem p)) := by
  unfold kas_descPart
  rw [krun_bind]
  obtain ⟨a1, a2, a3, a4, a5, a6, a7⟩ := desc_ok (key := key) (nrem - (n + 1)) p (n + 1) 0 (by lia) (by lia) h (fun a b _ _ _ _ => by rw [show a = b by lia])
  generalize krun (cK key) (kas_desc (nrem - (n + 1)) p (n + 1) 0) = r at *
  by_cases hq : r.2.2 > 0
  · rw [if_pos hq]
    have eq := rev_eq (key := key) (p := r.1) (i := r.2.1 - (r.2.2 + 1)) (j := r.2.1) (by lia) a7
    obtain ⟨b1, b2, b3, b4, b5⟩ := tail3_ok (key := key) (n := r.2.1) (nrem := nrem) (p := kas_rev r.1 (r.2.1 - (r.2.2 + 1)) r.2.1) (by lia) (by lia) (by rw [rev_size, a2]; exact hz) (a6.congr eq)
    exact ⟨b1.trans (rev_perm.trans a1), b2.trans (rev_size.trans a2), b3, b4, b5⟩
  · rw [if_neg hq]
    obtain ⟨b1, b2, b3, b4, b5⟩ := tail3_ok (key := key) (n := r.2.1) (nrem := nrem) (p := r.1) (by lia) (by lia) (by rw [a2]; exact hz) a6
    exact ⟨b1.trans a1, b2.trans a2, b3, b4, b5⟩
theorem count_ok {nrem : Nat} {p : Array Nat} (h1 : 1 ≤ nrem) (hz : nrem ≤ p.size) : CntOk key nrem p (krun (cK key) (kas_count nrem p)) := by
  unfold kas_count
  rw [krun_bind]
  have up1 : Up key p 1 := fun i j hij hj => by rw [show i = j by lia]; exact ll_irr _
  obtain ⟨a1, a2, a3, a4⟩ := asc_ok (key := key) (p := p) (nrem - 1) 1 (Nat.le_refl _) up1
  generalize krun (cK key) (kas_asc p (nrem - 1) 1) = n at *
  by_cases hn : n = nrem
  · rw [if_pos (by simpa using hn)]
    exact ⟨Array.Perm.refl _, rfl, a1, by show n ≤ nrem; lia, a3⟩
  · rw [if_neg (by simpa using hn)]
    have hlt : n < 1 + (nrem - 1) := by lia
    have hd := a4 hlt
    by_cases hg : n > 1
    · rw [if_pos hg]
      have e : krun (cK key) (.ask (p.getD 0 0) (p.getD (n - 1) 0) fun c => if c = true then .ret (n, p) else kas_descPart n nrem (kas_rev p 0 n)) = krun (cK key) (if ll (Bk key p 0) (Bk key p (n - 1)) = true then .ret (n, p) else kas_descPart n nrem (kas_rev p 0 n)) := rfl
      rw [e]
      cases c : ll (Bk key p 0) (Bk key p (n - 1)) with
      | true =>
        simp only [if_true]
        exact ⟨Array.Perm.refl _, rfl, a1, by show n ≤ nrem; lia, a3⟩
      | false =>
        simp only [Bool.false_eq_true, if_false]
        have all0 : ∀ a, a < n → Bk key p a = Bk key p 0 := fun a ha => by
          refine ll_tri ?_ ?_
          ·
            exact a3 0 a (by lia) ha
          · exact nl_trans (a3 a (n - 1) (by lia) (by lia)) c
        have eq := rev_eq (key := key) (p := p) (i := 0) (j := n) (by lia) (fun a b _ l2 _ l4 => by rw [all0 a l2, all0 b l4])
        have dn : Dn key (kas_rev p 0 n) (n + 1) := by
          refine Dn.congr (p := p) (fun i j hij hj => ?_) eq
          by_cases hjn : j = n
          · subst hjn
            by_cases hi : i = j
            · rw [hi]; exact ll_irr _
            · rw [all0 i (by lia), ← all0 (j - 1) (by lia)]
              exact ll_asym hd
          · rw [all0 i (by lia), all0 j (by lia)]; exact ll_irr _
        obtain ⟨b1, b2, b3, b4, b5⟩ := descPart_ok (key := key) (n := n) (nrem := nrem) (p := kas_rev p 0 n) a1 (by lia) (by rw [rev_size]; exact hz) dn
        exact ⟨b1.trans rev_perm, b2.trans rev_size, b3, b4, b5⟩
    · rw [if_neg hg]
      have hn1 : n = 1 := by lia
      subst hn1
      refine descPart_ok (Nat.le_refl _) (by lia) hz fun i j hij hj => ?_
      by_cases hi : i = j
      · rw [hi]; exact ll_irr _
      · have : i = 0 := by lia
        have : j = 1 := by lia
        subst i; subst j
        exact ll_asym hd
theorem place_ok {p : Array Nat} {k : Nat} (hs : Up key p k) : ∀ (f l r : Nat), l ≤ r → r ≤ k → r - l ≤ f → (∀ i, i < l → ll (Bk key p k) (Bk key p i) = false) → (∀ i, r ≤ i → i < k → ll (Bk key p k) (Bk key p i) = true) →
    l ≤ krun (cK key) (kas_place p k f l r) ∧ krun (cK key) (kas_place p k f l r) ≤ r ∧ (∀ i, i < krun (cK key) (kas_place p k f l r) → ll (Bk key p k) (Bk key p i) = false) ∧ (∀ i, krun (cK key) (kas_place p k f l r) ≤ i → i < k → ll (Bk key p k) (Bk key p i) = true)
  | 0, l, r, h1, h2, h3, h4, h5 => by
    have e : krun (cK key) (kas_place p k 0 l r) = l := rfl
    rw [e]
    exact ⟨Nat.le_refl _, h1, h4, fun i a b => h5 i (by lia) b⟩
  | f + 1, l, r, h1, h2, h3, h4, h5 => by
    have e : krun (cK key) (kas_place p k (f + 1) l r) = krun (cK key) (if l ≥ r then .ret l else .ask (p.getD k 0) (p.getD ((l + r) / 2) 0) fun c => if c = true then kas_place p k f l ((l + r) / 2) else kas_place p k f ((l + r) / 2 + 1) r) := rfl
    rw [e]
    by_cases hlr : l ≥ r
    · rw [if_pos hlr]
      exact ⟨Nat.le_refl _, h1, h4, fun i a b => h5 i (by have a' : l ≤ i := a; lia) b⟩
    · rw [if_neg hlr]
      have e2 : krun (cK key) (.ask (p.getD k 0) (p.getD ((l + r) / 2) 0) fun c => if c = true then kas_place p k f l ((l + r) / 2) else kas_place p k f ((l + r) / 2 + 1) r) = krun (cK key) (if ll (Bk key p k) (Bk key p ((l + r) / 2)) = true then kas_place p k f l ((l + r) / 2) else kas_place p k f ((l + r) / 2 + 1) r) := rfl
      rw [e2]
      cases c : ll (Bk key p k) (Bk key p ((l + r) / 2)) with
      | true =>
        simp only [if_true]
        obtain ⟨a1, a2, a3, a4⟩ := place_ok hs f l ((l + r) / 2) (by lia) (by lia) (by lia) h4 (fun i ha hb => ll_of_le c (hs _ i ha hb))
        exact ⟨a1, by lia, a3, a4⟩
      | false =>
        simp only [Bool.false_eq_true, if_false]
        obtain ⟨a1, a2, a3, a4⟩ := place_ok hs f ((l + r) / 2 + 1) r (by lia) h2 (by lia) (fun i hi => nl_trans (hs i ((l + r) / 2) (by lia) (by lia)) c) h5
        exact ⟨by lia, a2, a3, a4⟩
theorem bub_at {p : Array Nat} {k d : Nat} (hk : k < p.size) (hd : d ≤ k) (m : Nat) : Bk key (bubble p k d) m = if m = k - d then Bk key p k else if k - d < m ∧ m ≤ k then Bk key p (m - 1) else Bk key p m := by
  unfold Bk
  have e := getElem?_bubble (xs := p) hk d hd m
  have g : ∀ (q : Array Nat) (m : Nat), q.getD m 0 = (q[m]?).getD 0 := fun q m => by simp [Array.getD_eq_getD_getElem?]
  rw [g, g, g, g, e]
  split
  · rfl
  · split <;> rfl
theorem bin_ok : ∀ (f : Nat) (p : Array Nat) (k : Nat), k + f ≤ p.size → Up key p k → (krun (cK key) (kas_bin f p k)).Perm p ∧ (krun (cK key) (kas_bin f p k)).size = p.size ∧ Up key (krun (cK key) (kas_bin f p k)) (k + f)
  | 0, p, k, _, h => ⟨Array.Perm.refl _, rfl, h⟩
  | f + 1, p, k, hz, h => by
    have e : krun (cK key) (kas_bin (f + 1) p k) = krun (cK key) (kas_bin f (bubble p k (k - krun (cK key) (kas_place p k k 0 k))) (k + 1)) := by
      show krun (cK key) ((kas_place p k k 0 k).bind fun l => kas_bin f (bubble p k (k - l)) (k + 1)) = _
      rw [krun_bind]
    obtain ⟨a1, a2, a3, a4⟩ := place_ok h k 0 k (Nat.zero_le _) (Nat.le_refl _) (by lia) (fun i hi => absurd hi (Nat.not_lt_zero _)) (fun i hi hi2 => absurd hi2 (by lia))
    rw [e]
    generalize krun (cK key) (kas_place p k k 0 k) = l at *
    have up : Up key (bubble p k (k - l)) (k + 1) := fun i j hij hj => by
      have hkl : k - (k - l) = l := by lia
      have at_l : Bk key (bubble p k (k - l)) l = Bk key p k := by rw [bub_at (by lia) (by lia), hkl, if_pos rfl]
      have at_g : ∀ m, l < m → m ≤ k → Bk key (bubble p k (k - l)) m = Bk key p (m - 1) := fun m q1 q2 => by rw [bub_at (by lia) (by lia), hkl, if_neg (by lia), if_pos ⟨q1, q2⟩]
      have at_s : ∀ m, m < l → Bk key (bubble p k (k - l)) m = Bk key p m := fun m q1 => by rw [bub_at (by lia) (by lia), hkl, if_neg (by lia), if_neg (by lia)]
      rcases Nat.lt_trichotomy i l with hi | hi | hi
      · rw [at_s i hi]
        rcases Nat.lt_trichotomy j l with hjl | hjl | hjl
        · rw [at_s j hjl]; exact h i j hij (by lia)
        · rw [hjl, at_l]; exact a3 i hi
        · rw [at_g j hjl (by lia)]; exact h i (j - 1) (by lia) (by lia)
      · rw [hi, at_l]
        rcases Nat.lt_trichotomy j l with hjl | hjl | hjl
        · lia
        · rw [hjl, at_l]; exact ll_irr _
        · rw [at_g j hjl (by lia)]; exact ll_asym (a4 (j - 1) (by lia) (by lia))
      · rw [at_g i hi (by lia), at_g j (by lia) (by lia)]
        exact h (i - 1) (j - 1) (by lia) (by lia)
    obtain ⟨b1, b2, b3⟩ := bin_ok f (bubble p k (k - l)) (k + 1) (by rw [bubble_size]; lia) up
    exact ⟨b1.trans (bubble_perm _ _ _), b2.trans (bubble_size _ _ _), by rw [show k + (f + 1) = k + 1 + f by lia]; exact b3⟩
theorem sort_ok {n : Nat} (h1 : 1 ≤ n) : (krun (cK key) (kas_sort n)).Perm (List.toArray (List.range n)) ∧ (krun (cK key) (kas_sort n)).size = n ∧ Up key (krun (cK key) (kas_sort n)) n := by
  unfold kas_sort
  rw [krun_bind]
  have hz : (List.toArray (List.range n)).size = n := by simp
  obtain ⟨a1, a2, a3, a4, a5⟩ := count_ok (key := key) (nrem := n) (p := List.toArray (List.range n)) h1 (by lia)
  generalize krun (cK key) (kas_count n (List.toArray (List.range n))) = r at *
  by_cases hr : r.1 < n
  · rw [if_pos hr]
    have hm : max r.1 1 = r.1 := by lia
    rw [hm]
    obtain ⟨b1, b2, b3⟩ := bin_ok (key := key) (n - r.1) r.2 r.1 (by lia) a5
    exact ⟨b1.trans a1, by rw [b2, a2, hz], by rw [show r.1 + (n - r.1) = n by lia] at b3; exact b3⟩
  · rw [if_neg hr]
    have : r.1 = n := by lia
    rw [this] at a5
    exact ⟨a1, by show r.2.size = n; rw [a2, hz], a5⟩
end
end L3
set_option Elab.async false
set_option linter.all false
set_option maxRecDepth 100000
set_option maxHeartbeats 4000000
set_option autoImplicit false
namespace L3
open PySem PySem.Spec L2
open PyProof.Rows hiding St
open PySem.W (KasT kas_asc kas_desc kas_tail3 kas_descPart kas_count kas_place kas_bin kas_sort kas_rev kas_ask kas_item)
noncomputable def AskR {α : Type} (n : Nat) (R : α → Prop) : KasT α → Prop
  | .ret a => R a
  | .ask i j k => i < n ∧ j < n ∧ ∀ b, AskR n R (k b)
theorem AskR.bind {α β : Type} {n : Nat} {R : α → Prop} {R' : β → Prop} {f : α → KasT β} : ∀ {t : KasT α}, AskR n R t → (∀ a, R a → AskR n R' (f a)) → AskR n R' (t.bind f)
  | .ret a, h, hf => hf a h
  | .ask i j k, h, hf => ⟨h.1, h.2.1, fun b => AskR.bind (h.2.2 b) hf⟩
noncomputable def AllB (n : Nat) (p : Array Nat) : Prop := 1 ≤ n ∧ ∀ x, x ∈ p → x < n
theorem AllB.get {n : Nat} {p : Array Nat} (h : AllB n p) (k : Nat) : p.getD k 0 < n := by
  rw [Array.getD_eq_getD_getElem?]
  cases e : p[k]? with
  | none => exact h.1
  | some x => exact h.2 x (Array.mem_of_getElem? e)
theorem AllB.perm {n : Nat} {p q : Array Nat} (h : AllB n p) (hp : q.Perm p) : AllB n q := ⟨h.1, fun x hx => h.2 x (hp.mem_iff.mp hx)⟩
theorem ask_asc {n : Nat} {p : Array Nat} (h : AllB n p) : ∀ (f m : Nat), AskR n (fun _ => True) (kas_asc p f m)
  | 0, _ => trivial
  | f + 1, m => ⟨h.get _, h.get _, fun b => by cases b with
    | true => exact trivial
    | false => exact ask_asc h f (m + 1)⟩
theorem ask_desc {n : Nat} : ∀ (f : Nat) (p : Array Nat) (m q : Nat), AllB n p → AskR n (fun r => AllB n r.1) (kas_desc f p m q)
  | 0, p, m, q, h => h
  | f + 1, p, m, q, h => ⟨h.get _, h.get _, fun b => by
    cases b with
    | true =>
      show AskR n _ (if q > 0 then kas_desc f (kas_rev p (m - (q + 1)) m) (m + 1) 0 else kas_desc f p (m + 1) 0)
      split
      · exact ask_desc f _ _ _ (h.perm rev_perm)
      · exact ask_desc f _ _ _ h
    | false =>
      refine ⟨h.get _, h.get _, fun d => ?_⟩
      cases d with
      | true => exact h
      | false => exact ask_desc f _ _ _ h⟩
theorem ask_tail3 {n m nrem : Nat} {p : Array Nat} (h : AllB n p) : AskR n (fun r => AllB n r.2) (kas_tail3 m nrem p) :=
  AskR.bind (ask_asc (h.perm rev_perm) _ _) fun _ _ => h.perm rev_perm
theorem ask_descPart {n m nrem : Nat} {p : Array Nat} (h : AllB n p) : AskR n (fun r => AllB n r.2) (kas_descPart m nrem p) :=
  AskR.bind (ask_desc _ _ _ _ h) fun r hr => by
    split
    · exact ask_tail3 (hr.perm rev_perm)
    · exact ask_tail3 hr
theorem ask_count {n nrem : Nat} {p : Array Nat} (h : AllB n p) : AskR n (fun r => AllB n r.2) (kas_count nrem p) :=
  AskR.bind (ask_asc h _ _) fun m _ => by
    split
    · exact h
    · split
      · refine ⟨h.get _, h.get _, fun b => ?_⟩
        cases b with
        | true => exact h
        | false => exact ask_descPart (h.perm rev_perm)
      · exact ask_descPart h
theorem ask_place {n k : Nat} {p : Array Nat} (h : AllB n p) : ∀ (f l r : Nat), AskR n (fun _ => True) (kas_place p k f l r)
  | 0, _, _ => trivial
  | f + 1, l, r => by
    unfold kas_place
    split
    · exact trivial
    · refine ⟨h.get _, h.get _, fun b => ?_⟩
      cases b with
      | true => exact ask_place h f _ _
      | false => exact ask_place h f _ _
theorem ask_bin {n : Nat} : ∀ (f : Nat) (p : Array Nat) (k : Nat), AllB n p → AskR n (fun q => AllB n q) (kas_bin f p k)
  | 0, p, k, h => h
  | f + 1, p, k, h => AskR.bind (ask_place h _ _ _) fun l _ => ask_bin f _ _ (h.perm (bubble_perm _ _ _))
theorem ask_sort {n : Nat} (h1 : 1 ≤ n) : AskR n (fun _ => True) (kas_sort n) := by
  have h : AllB n (List.toArray (List.range n)) := ⟨h1, fun x hx => by simpa using hx⟩
  refine AskR.bind (ask_count h) fun r hr => ?_
  split
  · exact AskR.bind (t := kas_bin _ _ _) (f := KasT.ret) (R := fun _ => True) (by
      have := ask_bin (n - max r.1 1) r.2 (max r.1 1) hr
      exact (show ∀ {t : KasT (Array Nat)}, AskR n (fun q => AllB n q) t → AskR n (fun _ => True) t from fun {t} => by
        induction t with
        | ret a => intro _; trivial
        | ask i j k ih => intro h; exact ⟨h.1, h.2.1, fun b => ih b (h.2.2 b)⟩) this) (fun _ _ => trivial) |> fun h => by
      have e : ∀ (t : KasT (Array Nat)), t.bind KasT.ret = t := fun t => by
        induction t with
        | ret a => rfl
        | ask i j k ih => show KasT.ask i j (fun b => (k b).bind KasT.ret) = _; congr 1; funext b; exact ih b
      rw [e] at h; exact h
  · exact trivial
theorem wp_run {α : Type} {n : Nat} {R : α → Prop} {c : Nat → Nat → Bool} {cmp : Nat → Nat → (Bool → Shared → Prop) → Shared → Prop} {Q : α → Shared → Prop} {s : Shared} (hc : ∀ i j C, i < n → j < n → C (c i j) s → cmp i j C s) :
    ∀ {t : KasT α}, AskR n R t → Q (krun c t) s → t.kasWp cmp Q s
  | .ret a, _, h => h
  | .ask i j k, ha, h => hc i j _ ha.1 ha.2.1 (wp_run hc (ha.2.2 (c i j)) h)
section
variable {prog : Program} {w : World} {A : Around} {E : Value → Shared → Prop} {s : Shared}
noncomputable def outOf (key : Nat → List Int) (vs : List Value) : List Value := if vs.length < 2 then vs else (krun (cK key) (kas_sort vs.length)).toList.map fun i => vs.getD i Value.none
theorem outOf_len {key : Nat → List Int} {vs : List Value} : (outOf key vs).length = vs.length := by
  unfold outOf
  split
  · rfl
  · rw [List.length_map, Array.length_toList]
    exact (sort_ok (key := key) (n := vs.length) (by lia)).2.1
theorem list_sort_by {a : Addr} {vs : List Value} {n : Nat} {P : PySem.Fin → Shared → Prop} {κ : SortKind} {key : Nat → List Int} (ho : s.heap.get? a = some (seqObj "list" vs.toArray n)) (h64 : vs.length < 64)
    (hk : ∀ (s' : Shared) (Q : SortKind → Shared → Prop) (E : Value → Shared → Prop), (∀ b o, b ≠ a → s.heap.get? b = some o → s'.heap.get? b = some o) → 2 ≤ vs.length → Q κ s' → wpAny (model prog w) A (keyKind' vs.toArray) Q E s')
    (hc : ∀ (s' : Shared) (i j : Nat) (Q : Bool → Shared → Prop) (E : Value → Shared → Prop), (∀ b o, b ≠ a → s.heap.get? b = some o → s'.heap.get? b = some o) → i < vs.length → j < vs.length → Q (cK key i j) s' →
      wpAny (model prog w) A (keyLt' κ (vs.getD i Value.none) (vs.getD j Value.none)) Q E s')
    (h : P (.done (.ret .none)) { s with heap := sortedHeap s.heap a vs (outOf key vs).toArray }) : wpAny (model prog w) A (Builtin.«list.sort» ⟨[.ref a], []⟩) P E s := by
  rw [list_sort_plain]
  have ha : a < s.heap.objs.size := Heap.lt_size ho
  refine wpAny_bind (listItems_at ho rfl ?_)
  refine wpAny_bind (listUpdate_at ho rfl ?_ (by rw [List.size_toArray, sizeLine_eq]; lia) (Nat.zero_le _))
  obtain ⟨c1, ho1⟩ : ∃ c1, (s.heap.update a (Obj.mapSeq fun _ => #[])).get? a = some (seqObj "list" #[] c1) := ⟨_, get?_update_seq ho (fun _ => #[])⟩
  refine wpAny_bind (seqEpoch_at ho1 rfl ?_)
  refine wpAny_bind (wpAny_newTuple ?_ (by show vs.length ≤ _; rw [sizeLine_eq]; lia))
  refine wpAny_bind (wpAny_newList ?_ (Nat.zero_le _))
  refine wpAny_holding ?_
  have z1 : (s.heap.update a (Obj.mapSeq fun _ => #[])).objs.size = s.heap.objs.size := Heap.size_update ..
  have keep : ∀ b o, b ≠ a → s.heap.get? b = some o → (((s.heap.update a (Obj.mapSeq fun _ => #[])).push (seqObj "tuple" vs.toArray 0)).push (seqObj "list" #[] 0)).get? b = some o := fun b o hb e =>
    Heap.get?_push_of_some _ (Heap.get?_push_of_some _ (by rw [Heap.get?_update_ne _ _ _ _ hb]; exact e))
  have ho3 : (((s.heap.update a (Obj.mapSeq fun _ => #[])).push (seqObj "tuple" vs.toArray 0)).push (seqObj "list" #[] 0)).get? a = some (seqObj "list" #[] c1) := Heap.get?_push_of_some _ (Heap.get?_push_of_some _ ho1)
  show wpAny (model prog w) A _ P E { s with heap := ((s.heap.update a (Obj.mapSeq fun _ => #[])).push (seqObj "tuple" vs.toArray 0)).push (seqObj "list" #[] 0) }
  dsimp only
  have hsz : vs.toArray.size = vs.length := List.size_toArray ..
  by_cases h2 : vs.length < 2
  · have h2' : vs.toArray.size < 2 := by lia
    rw [if_pos h2', if_pos h2']
    refine wpAny_bind (wpAny_pure ?_)
    rw [StateT.run_pure]
    refine wpAny_bind (wpAny_pure ?_)
    dsimp only
    have eo : (arrOf (SortSt.mk' general' (vs.toArray.zip vs.toArray) #[] 7 none)).map (·.2) = (outOf key vs).toArray := by
      show ((vs.toArray.zip vs.toArray).map (·.2)) = _
      unfold outOf
      rw [if_pos h2]
      apply Array.toList_inj.mp
      simp
      exact List.map_snd_zip (Nat.le_refl _)
    refine wpAny_bind (seqEpoch_at ho3 rfl ?_)
    rw [eo]
    refine wpAny_bind (listUpdate_at ho3 rfl ?_ (Nat.zero_le _) (by rw [List.size_toArray, outOf_len, sizeLine_eq]; lia))
    simp only [bne_self_eq_false, Bool.false_eq_true, if_false]
    exact wpAny_pure h
  · have h2' : ¬ vs.toArray.size < 2 := by lia
    rw [if_neg h2', if_neg h2']
    refine wpAny_bind (hk _ _ _ keep (by lia) ?_)
    refine wpAny_bind (wpAny_mono (PySem.W.kat_run (ks := vs) (vs := vs) (κ := κ) (Q := fun st' s' => s' = { s with heap := ((s.heap.update a (Obj.mapSeq fun _ => #[])).push (seqObj "tuple" vs.toArray 0)).push (seqObj "list" #[] 0) } ∧ (arrOf st').map (·.2) = (outOf key vs).toArray ∧ failedOf st' = none)
      (G := fun p s' => p = krun (cK key) (kas_sort vs.length) ∧ s' = { s with heap := ((s.heap.update a (Obj.mapSeq fun _ => #[])).push (seqObj "tuple" vs.toArray 0)).push (seqObj "list" #[] 0) }) rfl (by lia) h64 (fun p st' s' _ q2 q3 q4 => ?_) ?_) ?_ fun _ _ x => x)
    · obtain ⟨rfl, rfl⟩ := q4
      refine ⟨rfl, ?_, q3⟩
      rw [PySem.W.kat_snds rfl q2]
      unfold outOf
      rw [if_neg h2]
    · exact wp_run (fun i j C hi hj hC => hc _ i j C _ keep hi hj hC) (ask_sort (by lia)) ⟨rfl, rfl⟩
    · rintro ⟨⟨⟩, st'⟩ s' ⟨rfl, hout, hf⟩
      dsimp only
      refine wpAny_bind (seqEpoch_at ho3 rfl ?_)
      rw [hout]
      refine wpAny_bind (listUpdate_at ho3 rfl ?_ (Nat.zero_le _) (by rw [List.size_toArray, outOf_len, sizeLine_eq]; lia))
      rw [hf]
      simp only [bne_self_eq_false, Bool.false_eq_true, if_false]
      exact wpAny_pure h
theorem sorted_by {l : Addr} {vs : List Value} {Q : Value → Shared → Prop} {κ : SortKind} {key : Nat → List Int} (hl : s.heap.IsList l vs.toArray) (h64 : vs.length < 64)
    (hk : ∀ (A' : Around) (s' : Shared) (Q : SortKind → Shared → Prop) (E : Value → Shared → Prop), A'.units ≤ A.units + 2 → (∀ b o, s.heap.get? b = some o → s'.heap.get? b = some o) → 2 ≤ vs.length → Q κ s' → wpAny (model prog w) A' (keyKind' vs.toArray) Q E s')
    (hc : ∀ (A' : Around) (s' : Shared) (i j : Nat) (Q : Bool → Shared → Prop) (E : Value → Shared → Prop), A'.units ≤ A.units + 2 → (∀ b o, s.heap.get? b = some o → s'.heap.get? b = some o) → i < vs.length → j < vs.length → Q (cK key i j) s' →
      wpAny (model prog w) A' (keyLt' κ (vs.getD i Value.none) (vs.getD j Value.none)) Q E s')
    (h : Q (.ref (s.heap.objs.size + 1)) { s with heap := sortedAll s.heap vs (outOf key vs).toArray }) : wpAny (model prog w) A (call (.builtin "sorted") [.ref l]) Q E s := by
  refine Calls.call_function_entry kind_sorted plain_sorted entry_sorted (args_sorted1 _) ?_
  unfold Builtin.«sorted»
  refine wpAny_bind (m := checkCount "sorted" 1 1 _) (wpAny_pure ?_)
  refine wpAny_bind (collect_list hl ?_ (by rw [sizeLine_eq]; lia))
  refine wpAny_bind (wpAny_newList ?_ (by rw [sizeLine_eq]; lia))
  have z1 : ((s.heap.push (seqObj "list" #[] 0)).update s.heap.objs.size (Obj.mapSeq (· ++ vs.toArray))).objs.size = s.heap.objs.size + 1 := by rw [Heap.size_update, size_push']
  have hoL : (((s.heap.push (seqObj "list" #[] 0)).update s.heap.objs.size (Obj.mapSeq (· ++ vs.toArray))).push (seqObj "list" vs.toArray 0)).get? (s.heap.objs.size + 1) = some (seqObj "list" vs.toArray 0) := by
    rw [← z1]; exact Heap.get?_push_size _ rfl
  have keep : ∀ b o, s.heap.get? b = some o → (((s.heap.push (seqObj "list" #[] 0)).update s.heap.objs.size (Obj.mapSeq (· ++ vs.toArray))).push (seqObj "list" vs.toArray 0)).get? b = some o := fun b o e =>
    Heap.get?_push_of_some _ (by rw [Heap.get?_update_ne _ _ _ _ (Nat.ne_of_lt (Heap.lt_size e))]; exact Heap.get?_push_of_some _ e)
  show wpAny _ _ _ _ _ { s with heap := ((s.heap.push (seqObj "list" #[] 0)).update s.heap.objs.size (Obj.mapSeq (· ++ vs.toArray))).push (seqObj "list" vs.toArray 0) }
  rw [z1]
  have ne1 : ∀ b o, s.heap.get? b = some o → b ≠ s.heap.objs.size + 1 := fun b o e => Nat.ne_of_lt (Nat.lt_succ_of_lt (Heap.lt_size e))
  refine wpAny_bind (wpAny_holding (wpAny_call_entry slot_list_sort ⟨_, hoL, rfl⟩ entry_list_sort (list_sort_by (κ := κ) (key := key) hoL h64
    (fun s' Q' E' kp h2 q => hk _ s' Q' E' ?_ (fun b o e => kp b o (ne1 b o e) (keep b o e)) h2 q) (fun s' i j Q' E' kp hi hj q => hc _ s' i j Q' E' ?_ (fun b o e => kp b o (ne1 b o e) (keep b o e)) hi hj q) ?_) (args_list_sort _)))
  · exact Nat.le_refl _
  · exact Nat.le_refl _
  · exact ⟨_, rfl, wpAny_pure ⟨_, rfl, h⟩⟩
end
noncomputable def kT : D → Option (List Int)
  | .tuple xs => go xs
  | _ => none
where go : List D → Option (List Int)
  | [] => some []
  | .int i :: r => (go r).map (i :: ·)
  | _ :: _ => none
theorem kT_go : ∀ {xs : List D} {ks : List Int}, kT.go xs = some ks → xs = ks.map PyData.int
  | [], ks, h => by cases h; rfl
  | x :: r, ks, h => by
    cases x with
    | int i =>
      unfold kT.go at h
      cases e : kT.go r with
      | none => rw [e] at h; cases h
      | some cs => rw [e] at h; cases h; rw [kT_go e]; rfl
    | _ => cases h
theorem kT_is {d : D} {ks : List Int} (h : kT d = some ks) : d = .tuple (ks.map PyData.int) := by
  unfold kT at h
  split at h
  · rw [kT_go h]
  · cases h
theorem eqv_ints : ∀ (ks ms : List Int), PyData.eqvAll (ks.map PyData.int) (ms.map PyData.int) = decide (ks = ms)
  | [], [] => rfl
  | [], _ :: _ => rfl
  | _ :: _, [] => rfl
  | x :: xs, y :: ys => by
    rw [List.map_cons, List.map_cons, PyData.eqvAll, eqv_ints xs ys]
    show ((x == y) && decide (xs = ys)) = _
    by_cases h : x = y
    · subst h; simp
    · have : (x == y) = false := by simpa using h
      rw [this]; simp [h]
noncomputable def ins (d : D) : List D → List D
  | [] => [d]
  | e :: r => if ll (kOf d) (kOf e) = true then d :: e :: r else e :: ins d r
where kOf (d : D) : List Int := (kT d).getD []
noncomputable def srt : List D → List D
  | [] => []
  | d :: r => ins d (srt r)
noncomputable abbrev kO := ins.kOf
theorem ins_perm (d : D) : ∀ xs : List D, (ins d xs).Perm (d :: xs)
  | [] => .refl _
  | e :: r => by
    unfold ins
    split
    · exact .refl _
    · exact ((ins_perm d r).cons e).trans (.swap d e r)
theorem srt_perm : ∀ xs : List D, (srt xs).Perm xs
  | [] => .refl _
  | d :: r => (ins_perm d (srt r)).trans ((srt_perm r).cons d)
noncomputable def Ord (xs : List D) : Prop := xs.Pairwise fun a b => ll (kO b) (kO a) = false
theorem ins_ord (d : D) : ∀ {xs : List D}, Ord xs → Ord (ins d xs)
  | [], _ => by unfold ins Ord; simp
  | e :: r, h => by
    have h' := List.pairwise_cons.mp h
    unfold ins
    split
    · rename_i c
      refine List.pairwise_cons.mpr ⟨fun x hx => ?_, h⟩
      rcases List.mem_cons.mp hx with q | q
      · subst q; exact ll_asym c
      · exact nl_trans (ll_asym c) (h'.1 x q)
    · rename_i c
      refine List.pairwise_cons.mpr ⟨fun x hx => ?_, ins_ord d h'.2⟩
      rcases List.mem_cons.mp ((ins_perm d r).mem_iff.mp hx) with q | q
      · subst q; simpa using c
      · exact h'.1 x q
theorem srt_ord : ∀ xs : List D, Ord (srt xs)
  | [] => List.Pairwise.nil
  | d :: r => ins_ord d (srt_ord r)
theorem ord_one : ∀ {xs ys : List D}, xs.Perm ys → Ord xs → Ord ys → (∀ x ∈ xs, (kT x).isSome) → xs = ys
  | [], ys, hp, _, _, _ => by rw [List.nil_perm.mp hp]
  | x :: xs, [], hp, _, _, _ => by have := hp.length_eq; simp at this
  | x :: xs, y :: ys, hp, h1, h2, hk => by
    have p1 := List.pairwise_cons.mp h1
    have p2 := List.pairwise_cons.mp h2
    have exy : x = y := by
      by_cases e : x = y
      · exact e
      · have hx : x ∈ ys := by
          rcases List.mem_cons.mp (hp.mem_iff.mp List.mem_cons_self) with q | q
          · exact absurd q e
          · exact q
        have hy : y ∈ xs := by
          rcases List.mem_cons.mp (hp.mem_iff.mpr List.mem_cons_self) with q | q
          · exact absurd q.symm e
          · exact q
        have a1 := p1.1 y hy
        have a2 := p2.1 x hx
        have ek : kO x = kO y := ll_tri a2 a1
        obtain ⟨k1, e1⟩ := Option.isSome_iff_exists.mp (hk x List.mem_cons_self)
        obtain ⟨k2, e2⟩ := Option.isSome_iff_exists.mp (hk y (List.mem_cons_of_mem _ hy))
        have q1 : kO x = k1 := by show (kT x).getD [] = k1; rw [e1]; rfl
        have q2 : kO y = k2 := by show (kT y).getD [] = k2; rw [e2]; rfl
        rw [kT_is e1, kT_is e2, ← q1, ← q2, ek]
    subst exy
    rw [ord_one (List.Perm.cons_inv hp) p1.2 p2.2 fun z hz => hk z (List.mem_cons_of_mem _ hz)]
noncomputable def gSrt (xs : List DV) : M DV := match xs with
  | [x] => bd (op (asL x)) fun ys => if ys.length < 64 ∧ ys.all (fun y => (kT y).isSome && decide ((kO y).length ≠ 0)) = true then rt (.new (srt ys)) else none
  | _ => none
theorem RpL.pick {Z : List Addr} {H : Hp} {ds : List D} {vs : List V} (l : RpL Z H ds vs) : ∀ (is : List Nat), (∀ i ∈ is, i < ds.length) → RpL Z H (is.map fun i => ds.getD i .none) (is.map fun i => vs.getD i .non)
  | [], _ => .nil
  | i :: r, h => by
    have hi := h i List.mem_cons_self
    obtain ⟨v, e, rv⟩ := l.get (i := i) (d := ds[i]) (by simp [hi])
    refine .cons ?_ (RpL.pick l r fun j hj => h j (List.mem_cons_of_mem _ hj))
    have e1 : ds.getD i .none = ds[i] := by simp [hi]
    have e2 : vs.getD i .non = v := by simp [List.getD_eq_getElem?_getD, e]
    show Rp Z H (ds.getD i .none) (vs.getD i .non)
    rw [e1, e2]; exact rv
theorem vals_pick {vs : List V} {us : List Value} (r : Vals vs us) : ∀ (is : List Nat), (∀ i ∈ is, i < vs.length) → Vals (is.map fun i => vs.getD i .non) (is.map fun i => us.getD i Value.none)
  | [], _ => .nil
  | i :: rs, h => by
    have hi := h i List.mem_cons_self
    obtain ⟨u, e, ru⟩ := r.get (i := i) (x := vs[i]) (by simp [hi])
    refine .cons ?_ (vals_pick r rs fun j hj => h j (List.mem_cons_of_mem _ hj))
    have e1 : vs.getD i .non = vs[i] := by simp [hi]
    have e2 : us.getD i Value.none = u := by simp [List.getD_eq_getElem?_getD, e]
    show RelV (vs.getD i .non) (us.getD i Value.none)
    rw [e1, e2]; exact ru
theorem tups_of {h : Heap} : ∀ (vs : List Value), (∀ v ∈ vs, ∃ b o its n i t, v = .ref b ∧ h.get? b = some o ∧ o.cls = .type "tuple" ∧ o.data = .seq its n ∧ its[0]? = some (.int i t)) → ∃ fs, PySem.W.KatTups h vs fs ∧ fs.length = vs.length ∧ ∀ f ∈ fs, ∃ i t, f = Value.int i t
  | [], _ => ⟨[], PySem.W.KatTups.nil, rfl, fun _ hf => nomatch hf⟩
  | v :: r, hv => by
    obtain ⟨b, o, its, n, i, t, rfl, eo, ec, ed, e0⟩ := hv v List.mem_cons_self
    obtain ⟨fs, h1, h2, h3⟩ := tups_of r fun u hu => hv u (List.mem_cons_of_mem _ hu)
    refine ⟨.int i t :: fs, PySem.W.KatTups.cons eo ec ed e0 h1, by simp [h2], fun f hf => ?_⟩
    rcases List.mem_cons.mp hf with e | e
    · exact ⟨i, t, e⟩
    · exact h3 f e
theorem lex_ints {prog : Program} {w : World} {A : Around} {s : Shared} {Q : Bool → Shared → Prop} {X Y : Nat} : ∀ {vs ws : List Value} {ks ms : List Int} (i : Nat), IntsAre vs ks → IntsAre ws ms → vs.length + Y = ws.length + X → Q (ll ks ms) s →
    PySem.W.KatLex prog w A true (decide (X < Y)) Q (vs.zip ws) i s
  | _, _, _, _, i, .nil, .nil, hl, h => by
    have : decide (X < Y) = false := decide_eq_false (by simp at hl; lia)
    rw [this]; exact h
  | _, _, _, _, i, .nil, .cons _ _ _, hl, h => by
    have : decide (X < Y) = true := decide_eq_true (by simp at hl; lia)
    rw [this]; exact h
  | _, _, _, _, i, .cons _ _ _, .nil, hl, h => by
    have : decide (X < Y) = false := decide_eq_false (by simp at hl; lia)
    rw [this]; exact h
  | _, _, x :: xs, y :: ys, i, .cons _ t h1, .cons _ u h2, hl, h => by
    have h' : Q (HT.lexLt (x :: xs) (y :: ys)) s := h
    rw [HT.lexLt_cons] at h'
    refine PySem.W.kat_cons (SeqAt.EqAt.int_int x t y u prog w _ _ ?_)
    by_cases e : x = y
    · subst e
      rw [if_pos rfl] at h'
      rw [beq_self_eq_true]
      exact PySem.W.kat_yes (lex_ints (i + 1) h1 h2 (by simp at hl; lia) h')
    · rw [if_neg e] at h'
      rw [show (x == y) = false by simpa using e]
      refine PySem.W.kat_no ?_
      cases hb : (true && i == 0) with
      | true => exact oneLt_int h'
      | false => exact PySem.W.kat_one _ _ (PyProof.Rows.lt_int h')
section
variable {X : Cx} {E : XK}
theorem range_pick {α : Type} (d : α) (xs : List α) : (List.range xs.length).map (fun i => xs.getD i d) = xs := by
  apply List.ext_getElem
  · simp
  · intro i h1 h2
    simp at h1
    simp [h1]
theorem cv_sorted (hu : X.A.units + 64 < cLine) : CallV X E (.builtin "sorted") gSrt := fun pins s σ O P H₀ H xs vs us r Q I hd hs rx rv e q => by
  unfold gSrt at e
  split at e
  · obtain ⟨ys, e1, e2⟩ := bd_op e
    split at e2
    · rename_i hz
      cases e2
      cases rx with
      | cons r1 rr =>
        cases rr
        obtain ⟨a, ws, rfl, ha, l⟩ := r1.list e1
        cases rv with
        | cons q1 q2 =>
          cases q2
          cases q1
          obtain ⟨its, ri, pl, hzz⟩ := I.list (SqL.of ha)
          have hlen : its.length = ys.length := by rw [← ri.length, l.length]
          have hkeys : ∀ i, i < ys.length → ∃ k, kT (ys.getD i .none) = some k ∧ k.length ≠ 0 := fun i hi => by
            have hm : ys[i] ∈ ys := List.getElem_mem hi
            have hall := List.all_eq_true.mp hz.2 _ hm
            rw [Bool.and_eq_true] at hall
            obtain ⟨k, ek⟩ := Option.isSome_iff_exists.mp hall.1
            refine ⟨k, by simpa [hi] using ek, ?_⟩
            have := of_decide_eq_true hall.2
            have ko : kO ys[i] = k := by show (kT ys[i]).getD [] = k; rw [ek]; rfl
            rwa [ko] at this
          have item : ∀ i, i < ys.length → ∃ b tv k its' o n, its.getD i Value.none = .ref b ∧ kT (ys.getD i .none) = some k ∧ k.length ≠ 0 ∧ ys.getD i .none = .tuple (k.map PyData.int) ∧ RpL (P ++ O) H (k.map PyData.int) tv ∧ Vals tv its' ∧ s.heap.get? b = some o ∧ o.cls = .type "tuple" ∧ o.data = .seq its'.toArray n := fun i hi => by
            obtain ⟨k, ek, hk0⟩ := hkeys i hi
            have ed := kT_is ek
            obtain ⟨v, ev, rvv⟩ := l.get (i := i) (d := ys[i]) (by simp [hi])
            have hyi : ys.getD i .none = ys[i] := by simp [hi]
            rw [← hyi, ed] at rvv
            cases rvv with
            | @tup b _ tv hzb hb lt =>
              obtain ⟨u, eu, ru⟩ := ri.get ev
              cases ru
              obtain ⟨its', rt', ⟨o, eo, hcl, n, hdt⟩, _⟩ := I.tuple (SqT.of hb)
              exact ⟨b, tv, k, its', o, n, by simp [List.getD_eq_getElem?_getD, eu], ek, hk0, ed, lt, rt', eo, hcl, hdt⟩
          have intsV : ∀ {k : List Int} {tv : List V} {its' : List Value}, RpL (P ++ O) H (k.map PyData.int) tv → Vals tv its' → IntsAre its' k := fun {k tv its'} lt rt' => by
            have : tv = k.map V.int := by
              clear rt'
              induction k generalizing tv with
              | nil => cases lt; rfl
              | cons x r ih =>
                cases lt with
                | cons p lt => cases p; rw [ih lt]; rfl
            subst this
            exact intsAre_of rt'
          refine sorted_by (κ := tuples' true) (key := fun i => kO (ys.getD i .none)) pl.isList (by rw [hlen]; exact hz.1) (fun A' s' Q' E' hA kp h2 hq => ?_) (fun A' s' i j Q' E' hA kp hi hj hq => ?_) ?_
          ·
            obtain ⟨fs, f1, f2, f3⟩ := tups_of (h := s'.heap) its fun v hv => by
              obtain ⟨i, hi, ev⟩ := List.getElem_of_mem hv
              obtain ⟨b, tv, k, its', o, n, eb, ek, hk0, _, lt, rt', eo, hcl, hdt⟩ := item i (by lia)
              have ev' : its.getD i Value.none = v := by simp [hi, ev]
              have hI := intsV lt rt'
              cases hI with
              | nil => exact absurd rfl hk0
              | cons x t hI' => exact ⟨b, o, _, n, x, t, ev'.symm.trans eb, kp b o eo, hcl, hdt, rfl⟩
            refine PySem.W.kat_kind (T := .type "int") f1 (by lia) (fun v hv => ?_) (by rfl) hq
            obtain ⟨i, t, rfl⟩ := f3 v hv
            exact PySem.W.Looks.now
          · obtain ⟨b, tv, k, its', o, n, eb, ek, hk0, _, lt, rt', eo, hcl, hdt⟩ := item i (by lia)
            obtain ⟨b2, tv2, k2, its2, o2, n2, eb2, ek2, _, _, lt2, rt2, eo2, hcl2, hdt2⟩ := item j (by lia)
            rw [eb, eb2]
            have z1 : kO (ys.getD i .none) = k := by show (kT (ys.getD i .none)).getD [] = k; rw [ek]; rfl
            have z2 : kO (ys.getD j .none) = k2 := by show (kT (ys.getD j .none)).getD [] = k2; rw [ek2]; rfl
            have hq' : Q' (ll k k2) s' := by
              have : cK (fun i => kO (ys.getD i .none)) i j = ll k k2 := by show ll (kO (ys.getD i .none)) (kO (ys.getD j .none)) = ll k k2; rw [z1, z2]
              rw [← this]; exact hq
            exact PySem.W.kat_lt (kp b o eo) hdt (kp b2 o2 eo2) hdt2 (lex_ints (X := its'.toArray.size) (Y := its2.toArray.size) 0 (intsV lt rt') (intsV lt2 rt2) (by simp; lia) hq')
          ·
            have fin : ∀ (ds : List D) (vs' : List V) (us' : List Value), RpL (P ++ O) H ds vs' → Vals vs' us' → outOf (fun i => kO (ys.getD i .none)) its = us' → ds = srt ys → EP X pins σ Q (.ref (s.heap.objs.size + 1)) { s with heap := sortedAll s.heap its (outOf (fun i => kO (ys.getD i .none)) its).toArray } := fun ds vs' us' hl' hv' eo ed => by
              subst ed
              rw [eo]
              obtain ⟨ep, hat⟩ := sortedAll_at s.heap its us'.toArray
              have hn : s.heap.objs.size ≤ s.heap.objs.size + 1 := Nat.le_succ _
              refine ⟨.ref (s.heap.objs.size + 1), upd H (s.heap.objs.size + 1) (.lst vs'), I.laid (t' := s.toks) (fun b o e => sortedAll_old e) hn ⟨?_, us', ep, hv', hat⟩, rfl, q _ _ (same_upd (I.hok.fresh hn)) (RE.made hs (I.hok.fresh hn) hl')⟩
              rw [← hl'.length, (srt_perm ys).length_eq, l.length]; exact hzz
            by_cases h2 : its.length < 2
            · refine fin ys ws its l ri (by unfold outOf; rw [if_pos h2]) ?_
              match ys, hlen, h2 with
              | [], _, _ => rfl
              | [_], _, _ => rfl
              | _ :: _ :: _, e, h => simp at e; lia
            · obtain ⟨s1, s2, s3⟩ := sort_ok (key := fun i => kO (ys.getD i .none)) (n := its.length) (by lia)
              have hp : (krun (cK fun i => kO (ys.getD i .none)) (kas_sort its.length)).toList.Perm (List.range its.length) := by simpa using Array.perm_iff_toList_perm.mp s1
              have hlt : ∀ i ∈ (krun (cK fun i => kO (ys.getD i .none)) (kas_sort its.length)).toList, i < ys.length := fun i hi => by
                have := List.mem_range.mp (hp.mem_iff.mp hi)
                lia
              refine fin _ _ _ (l.pick _ hlt) (vals_pick ri _ fun i hi => by rw [← l.length]; exact hlt i hi) (by unfold outOf; rw [if_neg h2]) ?_
              generalize hP : krun (cK fun i => kO (ys.getD i .none)) (kas_sort its.length) = p at *
              refine ord_one ?_ ?_ (srt_ord ys) ?_
              · refine List.Perm.trans ?_ (srt_perm ys).symm
                have := hp.map fun i => ys.getD i .none
                rw [hlen, range_pick] at this
                exact this
              · refine List.pairwise_iff_getElem.mpr fun a b ha hb hab => ?_
                simp only [List.length_map, Array.length_toList] at ha hb
                have := s3 a b (Nat.le_of_lt hab) (by lia)
                unfold Bk at this
                simp only [List.getElem_map, Array.getElem_toList]
                have g : ∀ c (hc : c < p.size), p.getD c 0 = p[c] := fun c hc => by simp [Array.getD, hc]
                rw [g a ha, g b hb] at this
                exact this
              · intro x hx
                obtain ⟨i, hi, rfl⟩ := List.mem_map.mp hx
                obtain ⟨k, ek, _⟩ := hkeys i (hlt i hi)
                rw [ek]; rfl
    · cases e2
  · cases e
end
end L3
set_option Elab.async false
set_option linter.all false
set_option maxRecDepth 100000
set_option maxHeartbeats 4000000
set_option autoImplicit false
namespace L3
open PySem PySem.Spec L2
open PyProof.Rows hiding St
noncomputable def gPlus := gOr gAdd gCat
noncomputable def gTimes := gOr gMul gRep
noncomputable def gLtD := gOr gLt (gC true)
noncomputable def gLeD := gOr gLe (gC false)
section
variable {X : Cx} {E : XK}
theorem ov_plus : OpV X E (binaryOp .Add) gPlus := ov_add.or ov_cat
theorem ov_times : OpV X E (binaryOp .Mult) gTimes := ov_mul.or ov_rep
theorem ov_ltX (hu : X.A.units + 64 < cLine) : OpV X E (compareOp .Lt) gLtD := ov_lt.or (ov_ltD hu)
theorem ov_leX (hu : X.A.units + 64 < cLine) : OpV X E (compareOp .LtE) gLeD := ov_le.or (ov_leD hu)
end
@[simp] theorem zzv (i j : Int) : gPlus (.d (.int i)) (.d (.int j)) = rt (.d (.int (i + j))) := rfl
@[simp] theorem zxz (i j : Int) : gAdd (.d (.int i)) (.d (.int j)) = rt (.d (.int (i + j))) := rfl
@[simp] theorem zxj (i j : Int) : gSub (.d (.int i)) (.d (.int j)) = rt (.d (.int (i - j))) := rfl
@[simp] theorem zyd (i j : Int) : gLt (.d (.int i)) (.d (.int j)) = rt (.d (.bool (decide (i < j)))) := rfl
@[simp] theorem zyz (i j : Int) : gLe (.d (.int i)) (.d (.int j)) = rt (.d (.bool (decide (i ≤ j)))) := rfl
@[simp] theorem zxb (i j : Int) : gGt (.d (.int i)) (.d (.int j)) = rt (.d (.bool (decide (j < i)))) := rfl
@[simp] theorem zyb (i j : Int) : gGe (.d (.int i)) (.d (.int j)) = rt (.d (.bool (decide (j ≤ i)))) := rfl
@[simp] theorem zzf (i j : Int) : gLtD (.d (.int i)) (.d (.int j)) = rt (.d (.bool (decide (i < j)))) := rfl
@[simp] theorem zxw (i j : Int) : gLeD (.d (.int i)) (.d (.int j)) = rt (.d (.bool (decide (i ≤ j)))) := rfl
theorem gMod_int {i j : Int} (h : 0 < j) : gMod (.d (.int i)) (.d (.int j)) = rt (.d (.int (i % j))) := by
  unfold gMod gI cMod
  simp [h]
theorem gDiv_int {i j : Int} (h : 0 < j) (h' : j < 1073741824) : gDiv (.d (.int i)) (.d (.int j)) = rt (.d (.int (i / j))) := by
  unfold gDiv gI cDiv
  simp [h, h']
theorem gTimes_int {i j : Int} (h : cMul i j = true) : gTimes (.d (.int i)) (.d (.int j)) = rt (.d (.int (i * j))) := by
  unfold gTimes gOr gMul gI
  simp [h, rt]
theorem bt_len : bootBuiltins "len" = some (.builtin "len") := by decide +kernel
theorem bt_all : bootBuiltins "all" = some (.builtin "all") := by decide +kernel
theorem bt_min : bootBuiltins "min" = some (.builtin "min") := by decide +kernel
theorem bt_max : bootBuiltins "max" = some (.builtin "max") := by decide +kernel
theorem bt_sorted : bootBuiltins "sorted" = some (.builtin "sorted") := by decide +kernel
theorem bt_isinstance : bootBuiltins "isinstance" = some (.builtin "isinstance") := by decide +kernel
theorem bt_int : bootBuiltins "int" = some (.type "int") := by decide +kernel
theorem bt_bool : bootBuiltins "bool" = some (.type "bool") := by decide +kernel
theorem bt_tuple : bootBuiltins "tuple" = some (.type "tuple") := by decide +kernel
theorem bt_str : bootBuiltins "str" = some (.type "str") := by decide +kernel
theorem bt_ValueError : bootBuiltins "ValueError" = some (.type "ValueError") := by decide +kernel
structure Has (P : Program) (w : World) (K : PySem.W.Frag) (mg : Str → Option Value) (base : Heap) (k : Nat) (x : Str) (n : Nat) (fm : List DV → M DV) : Prop where
  ex : ∃ fn fd ps, FnOk P w K mg base CX0 k fn fd ps (sp0 n fm) ∧ mg x = some (.ref fn) ∧ PySem.W.keepIn K (.ref fn) = true ∧ Binds K fd ps []
section
variable {X : Cx} {E : XK} {e : Expr} {es : List Expr} {pos p : Pos} {fa : DS → M DV} {fr : DS → M (List DV)}
theorem zqf {k n : Nat} {x : Str} {fm : List DV → M DV} (F : Has X.prog X.w X.K X.mg X.base k x n fm) (hr : Room k X.A) (ha : PAs X E (e :: es) fr) (hg : Gl X x := by rfl) (hdb : (x == ("__debug__" : Str)) = false := by decide)
    (he : starEach (e :: es) X.env = (false, eval e X.env) :: starEach es X.env := by rfl) (hpl : (backTo pos (starEach es X.env)).any (·.1) = false := by rfl) :
    PX X E (.Call (.Name x p) (e :: es) [] pos) (eCb (zxg n fm) fr) := by
  obtain ⟨fn, fd, ps, h1, h2, h3, h4⟩ := F.ex
  exact px_call h1 hr h2 h3 h4 ha hg hdb he hpl
noncomputable def tyD : D → Option String
  | .none => some "NoneType"
  | .bool _ => some "bool"
  | .int _ => some "int"
  | .str _ => some "str"
  | .tuple _ => some "tuple"
  | .list _ => some "list"
  | _ => none
noncomputable def isT (T t : String) : Bool := if T = "int" then t = "int" || t = "bool" else t = T
noncomputable def kit0 (t T : String) : Option Bool := if (Value.type t == Value.type T) = true then some true else if PySem.W.kitMeta T = true then (fastBuiltinMro t).map (·.contains (.type T)) else none
theorem kit0_eq (K : PySem.W.Frag) (t T : String) : PySem.W.kitOne K (.type t) (.type T) = kit0 t T := rfl
noncomputable def tys : List String := ["NoneType", "bool", "int", "str", "tuple", "list"]
theorem kit_tab : ∀ T ∈ ["int", "bool", "str", "tuple", "list"], ∀ t ∈ tys, kit0 t T = some (isT T t) := by decide +kernel
theorem tyD_in {d : D} {t : String} (h : tyD d = some t) : t ∈ tys := by
  cases d <;> simp only [tyD] at h <;> first | (cases h; decide) | cases h
noncomputable def eIs (T : String) (fa : DS → M DV) (δ : DS) : M DV := bd (fa δ) fun x => bd (op ((asQ x).bind tyD)) fun t => rt (.d (.bool (isT T t)))
theorem tyOf_d {Z : List Addr} {H : Hp} {K : PySem.W.Frag} {d : D} {v : V} {t : String} (r : Rp Z H d v) (h : tyD d = some t) : TyOf K H v (.type t) := by
  cases r with
  | none => cases h; exact .non
  | bool b => cases h; exact .bl b
  | int i => cases h; exact .int i
  | str x _ => cases h; exact .str x
  | tup _ ha _ => cases h; exact .tup ha
  | lst _ ha _ => cases h; exact .lst ha
theorem RE.ty {O P : List Addr} {H₀ H : Hp} {K : PySem.W.Frag} {x : DV} {v : V} {t : String} (r : RE O P H₀ H x v) (h : (asQ x).bind tyD = some t) : TyOf K H v (.type t) := by
  cases x with
  | d y => exact tyOf_d (show Rp (P ++ O) H y v from r) h
  | ob C fs => cases h
  | tbl kvs => cases h
  | ex q => cases h
  | tpo p xs q => cases h
  | nwt p xs q => cases h
  | own xs =>
    obtain ⟨a, vs, rfl, _, ha, _⟩ := r
    cases h; exact .lst ha
  | new xs =>
    obtain ⟨a, vs, rfl, _, ha, _⟩ := r
    cases h; exact .lst ha
  | scr K ns => cases h
theorem px_is {T : String} {y : Str} {p2 : Pos} (hT : T ∈ ["int", "bool", "str", "tuple", "list"]) (hm : X.mg "isinstance" = none) (hmy : X.mg y = none) (hv : bootBuiltins y = some (.type T)) (ha : PX X E e fa) (hg : Gl X "isinstance" := by rfl) (hgy : Gl X y := by rfl) (hn : y ≠ "__name__" := by decide) (hdb : (y == ("__debug__" : Str)) = false := by decide)
    (he : starEach [e, .Name y p2] X.env = (false, eval e X.env) :: starEach [.Name y p2] X.env := by rfl) (hpl : (backTo pos (starEach [.Name y p2] X.env)).any (·.1) = false := by rfl) : PX X E (.Call (.Name "isinstance" p) [e, .Name y p2] [] pos) (eIs T fa) := by
  intro pins s σ H Q I h
  refine wpAny_Call_Name_kw (ld_blt I hg hm bt_isinstance ?_)
  refine PyProof.Rows.callWith_builtin1 (PyProof.Rows.spliced_more (thn (ha pins s σ H (fun v H1 => ∃ t, TyOf X.K H1 v (.type t) ∧ t ∈ tys ∧ Q (.bl (isT T t)) H1) I ?_) fun u s1 ⟨v, H1, I1, r1, t, ty, hin, q1⟩ => PyProof.Rows.spliced_more (ld_blt I1 hgy hmy hv ?_ hn hdb)) he) he hpl
  · exact tE_bd (g := fun _ x => bd (op ((asQ x).bind tyD)) fun t => rt (.d (.bool (isT T t)))) h fun O P δ x r v H1 rs rs1 s1 rx e' q' => by
      obtain ⟨t, e1, e2⟩ := bd_op e'
      cases e2
      refine ⟨t, rx.ty e1, ?_, q' _ H1 (Same.refl H1) (.bool _)⟩
      obtain ⟨d, _, hd⟩ := Option.bind_eq_some_iff.mp e1
      exact tyD_in hd
  · exact PyProof.Rows.spliced_none (isinst_ok I1 r1 ty (b := isT T t) (by rw [kit0_eq]; exact kit_tab T hT t hin) fun tk => ⟨.bl _, H1, I1.tok tk, rfl, q1⟩)
end
structure CompSc (sc : Scope) (N : List Str) (k : Nat) (js : List Nat) (N' : List Str) (scope : Scope) : Prop where
  kind : scope.kind = .function
  nocell : ∀ y ∈ scope.names, y.2 ≠ .cell
  loc : ∀ y ∈ scope.names, y.2 = .local → scope.names.lookup y.1 = some .local
  free : ∀ y ∈ scope.names, y.2 = .free → sc.names.lookup y.1 = some .cell ∨ sc.names.lookup y.1 = some .free
  len : N'.length = k + js.length
  at' : ((List.range js.length).all fun i => match js[i]?, N'[k + i]? with
    | some j, some x => decide (N[j]? = some x ∧ (sc.names.lookup x = some .cell ∨ sc.names.lookup x = some .free) ∧ scope.names.lookup x = some .free)
    | _, _ => false) = true
theorem CompSc.fit {X : Cx} {N : List Str} {k : Nat} {js : List Nat} {N' : List Str} {sc scope : Scope} (S : CompSc sc N k js N' scope) (h1 : X.env.scope = sc := by rfl) (h2 : X.N = N := by rfl) : CompFit X k js N' scope := by
  subst h1 h2
  refine ⟨S.kind, S.nocell, S.loc, S.free, S.len, fun i x h hi => ?_⟩
  have hlt : i < N'.length := (List.getElem?_eq_some_iff.mp h).1
  rw [S.len] at hlt
  have q := List.all_eq_true.mp S.at' (i - k) (List.mem_range.mpr (by lia))
  have e : k + (i - k) = i := by lia
  rw [e, h] at q
  cases ej : js[i - k]? with
  | none => rw [ej] at q; cases q
  | some j =>
    rw [ej] at q
    obtain ⟨a, b, c⟩ := of_decide_eq_true q
    exact ⟨j, rfl, a, b, c⟩
theorem sub_name {k : Nat} {js : List Nat} {i : Nat} (hi : i < k) (δ : DS) (d : D) (δ1 : DS) (h : zjq i d (subD k js δ) = some δ1) : Sub (subD k js δ) δ1 := by
  cases h
  refine sub_set (.inl ?_)
  unfold subD
  rw [List.getElem?_append_left (by simpa using hi), List.getElem?_replicate, if_pos hi]
theorem Has.mono {P : Program} {w : World} {K : PySem.W.Frag} {mg : Str → Option Value} {base : Heap} {j k : Nat} {x : Str} {n : Nat} {fm : List DV → M DV} (h : Has P w K mg base j x n fm) (hj : j ≤ k) : Has P w K mg base k x n fm := by
  obtain ⟨fn, fd, ps, h1, h2, h3, h4⟩ := h.ex
  exact ⟨fn, fd, ps, h1.mono hj, h2, h3, h4⟩
noncomputable def Df (K : PySem.W.Frag) (mg : Str → Option Value) (x : Str) (st : Stmt) (ps : List Str) : Prop := ∃ f fd, Fun K x x st f fd ∧ mg x = some (.ref f) ∧ Binds K fd ps []
theorem Df.has {P : Program} {w : World} {K : PySem.W.Frag} {mg : Str → Option Value} {base : Heap} {x : Str} {st : Stmt} {ps : List Str} {k n : Nat} {fm : List DV → M DV} (D : Df K mg x st ps)
    (h : ∀ f fd, Fun K x x st f fd → FnOk P w K mg base CX0 k f fd ps (sp0 n fm)) : Has P w K mg base k x n fm := by
  obtain ⟨f, fd, Fu, hm, hb⟩ := D
  exact ⟨f, fd, ps, h f fd Fu, hm, Fu.kp, hb⟩
theorem hu64 {A : Around} {k : Nat} (hr : Room k A) : A.units + 64 < cLine := by
  have := hr.un
  lia
theorem px_gi {X : Cx} {E : XK} {x : Str} {i : Int} {pos : Pos} (hm : ∃ t, X.mg x = some (.int i t)) (hg : Gl X x := by rfl) (hd : (x == ("__debug__" : Str)) = false := by decide) : PX X E (.Name x pos) (eC (.int i)) := by
  obtain ⟨t, h⟩ := hm
  exact px_gint hg h hd
end L3
set_option Elab.async false
set_option linter.all false
set_option maxRecDepth 100000
set_option maxHeartbeats 4000000
set_option autoImplicit false
namespace L3
open PySem PySem.Spec L2
open PyProof.Rows hiding St
theorem ObjOk.some {P : Program} {w : World} {H : Hp} {h : Heap} {a : Addr} {o : HO} (x : ObjOk P w H h a o) : ∃ u, h.get? a = some u := by
  cases o with
  | lst xs => obtain ⟨_, _, _, _, e⟩ := x; exact ⟨_, e⟩
  | tup xs => obtain ⟨_, _, _, u, e, _⟩ := x; exact ⟨u, e⟩
  | dK kvs => obtain ⟨_, _, _, _, u, _, _, e, _⟩ := x; exact ⟨u, e⟩
  | dT kvs => obtain ⟨_, _, _, _, u, _, _, e, _⟩ := x; exact ⟨u, e⟩
  | set S n => obtain ⟨u, _, _, _, e, _⟩ := x; exact ⟨u, e⟩
  | ins C dx fs => obtain ⟨_, _, _, e, _⟩ := x; exact ⟨_, e⟩
  | own y => exact x
  | xd fs => obtain ⟨_, ⟨u, _, _, e, _⟩, _⟩ := x; exact ⟨u, e⟩
  | rng lo hi => obtain ⟨_, _, _, e⟩ := x; exact ⟨_, e⟩
  | frz ob u => exact ⟨ob, x.1⟩
  | tbl ps => exact ⟨_, x⟩
  | met f y => exact ⟨_, x⟩
  | ext φ => exact x.2.1
structure Fly (P : Program) (w : World) (l : List Env) (s : Shared) (H : Hp) (cls : Value) (x : Addr) (H' : Hp) (B : Heap) (a0 : Value) (s' : Shared) : Prop where
  os : s'.os = s.os
  bare : AllBare s'.gens
  fly : Heap.FlyingW B l x cls a0 s'.heap
  trk : ∀ b u, H' b = some u → ∃ o, B.get? b = some o
  old : ∀ b o, s.heap.get? b = some o → H b = none → b ∉ frs l → B.get? b = some o
  all : ∀ b o, s.heap.get? b = some o → b ∉ frs l → ∃ o', B.get? b = some o'
  un : Un (frs l) [] H H' s.heap s'.heap
  hok : HOk P w H' s'.heap
noncomputable def CXR (P : Program) (w : World) : CXT := fun l H s E e s' => ∃ x cls dx H' B a0, e = .ref x ∧ Fly P w l s H cls x H' B a0 s' ∧ E cls dx H'
theorem Fly.free {P : Program} {w : World} {l : List Env} {s s' : Shared} {H H' : Hp} {cls a0 : Value} {x : Addr} {B : Heap} (F : Fly P w l s H cls x H' B a0 s') : H' x = none := by
  cases q : H' x with
  | none => rfl
  | some u =>
    obtain ⟨o, e⟩ := F.trk x u q
    rw [F.fly.2.1] at e; cases e
theorem Fly.go {P : Program} {w : World} {l : List Env} {s s' : Shared} {H H' : Hp} {cls a0 : Value} {x : Addr} {B h' : Heap} (F : Fly P w l s H cls x H' B a0 s') (f : Heap.FlyingW B l x cls a0 h') (u : s'.heap.UpToSlots h') : Fly P w l s H cls x H' B a0 { s' with heap := h' } := by
  have fr : ∀ b, b ∈ frs l → ∀ o, s'.heap.get? b = some o → ∃ sl, h'.get? b = some { o with slots := sl } := fun b hb o e => by
    obtain ⟨_, o', e', hd⟩ := F.fly.2.2.1.mem hb
    rw [e] at e'; cases e'
    exact u b o e hd
  refine ⟨F.os, F.bare, f, F.trk, F.old, F.all, ⟨fun b o e n hb _ => f.1 b o (F.old b o e n hb), fun b o e n hb hx => ?_, F.un.free, fun b o e hx => ?_, F.un.tups, F.un.frzs, F.un.tbls⟩, fun b v q => (F.hok b v q).stay (fun c o hc e => ?_) (fun _ q => q) fun _ _ q => q⟩
  · obtain ⟨sl, e1⟩ := F.un.slot b o e n hb hx
    obtain ⟨sl', e2⟩ := fr b hb _ e1
    exact ⟨sl', e2⟩
  · obtain ⟨o', e1⟩ := F.un.there b o e hx
    by_cases hb : b ∈ frs l
    · obtain ⟨sl, e2⟩ := fr b hb o' e1
      exact ⟨_, e2⟩
    · obtain ⟨o2, e2⟩ := F.all b o e hb
      exact ⟨o2, f.1 b o2 e2⟩
  · have ht : ∃ v', H' c = some v' := by
      rcases hc with z | z
      · exact ⟨v, z ▸ q⟩
      · exact ⟨_, z⟩
    obtain ⟨v', hv'⟩ := ht
    obtain ⟨o2, e2⟩ := F.trk c v' hv'
    have := F.fly.1 c o2 e2
    rw [e] at this; cases this
    exact f.1 c _ e2
theorem Fly.inv {X : Cx} {pins : List (Addr × Obj)} {σ : St} {s s' : Shared} {H H' : Hp} {cls a0 : Value} {x : Addr} {B : Heap} (I : Inv X pins σ H s) (F : Fly X.prog X.w X.stack s H cls x H' B a0 s') : Inv X pins σ H' s' :=
  I.call' (ch := []) F.os F.un F.hok F.bare fun b hb => absurd hb (by simp)
theorem xe_made {P : Program} {w : World} {K : PySem.W.Frag} {mg : Str → Option Value} {base : Heap} {N : List Str} {qual : Str} {scope : Scope} {f : Addr} {cd : Value} {A : Around} {outer : List Env} {s0 s : Shared} {H0 H : Hp} {E : XK} {pins : List (Addr × Obj)} {σ : St} {h1 : Heap} {e : Addr} {cls : Value} {vs : List Value}
    (I : Inv (cxOf (CXR P w) P w K mg base N qual scope f cd A outer s0 H0 E) pins σ H s) (hx : Heap.MadeExcOf s.heap h1 e cls vs) (hE : E cls none H) : (cxOf (CXR P w) P w K mg base N qual scope f cd A outer s0 H0 E).xe (.ref e) { s with heap := h1 } := by
  have hl : ∀ b, b ∈ frs (envOfC qual scope s0.heap.objs.size f cd :: outer) ↔ b = s0.heap.objs.size ∨ b ∈ frs outer := fun b => by
    show b ∈ s0.heap.objs.size :: frs outer ↔ _
    exact List.mem_cons
  have nL : ∀ b o, s0.heap.get? b = some o → b ≠ s0.heap.objs.size := fun b o q => Nat.ne_of_lt (Heap.lt_size q)
  have hst := I.stack
  have ff := PySem.W.funFrames_hide (as := frs (envOfC qual scope s0.heap.objs.size f cd :: outer)) hst fun en he a ha => List.mem_filterMap.mpr ⟨en, he, ha⟩
  refine wpAny_leaves_madeW (base := PySem.W.hideAll s.heap (frs (envOfC qual scope s0.heap.objs.size f cd :: outer))) (h := s.heap) I.ok.frames rfl (fun b o q => PySem.W.of_hideAll _ q) ff hx fun h2 t x1 x2 x3 x4 => ?_
  have kB : ∀ b o, s.heap.get? b = some o → b ∉ frs (envOfC qual scope s0.heap.objs.size f cd :: outer) → h2.get? b = some o := fun b o q n => x1.1 b o (PySem.W.hideAll_get _ q n)
  have trk : ∀ b u, H b = some u → b ∉ frs (envOfC qual scope s0.heap.objs.size f cd :: outer) := fun b u q hb => by
    have := I.stkFree b hb
    rw [q] at this; cases this
  have fr : ∀ b o, b ∈ frs outer → s.heap.get? b = some o → ∃ sl, h2.get? b = some { o with slots := sl } := fun b o hb q => by
    obtain ⟨_, o', e', hd⟩ := I.funs.mem hb
    rw [q] at e'; cases e'
    exact x4 b o (hx.keeps b o q) hd
  have out : ∀ b o, s0.heap.get? b = some o → b ∉ frs outer → b ∉ frs (envOfC qual scope s0.heap.objs.size f cd :: outer) := fun b o q n z => by
    rcases (hl b).mp z with z | z
    · exact nL b o q z
    · exact n z
  refine ⟨e, cls, none, H, _, _, rfl, ⟨I.os, I.bare, x1, fun b u q => ?_, fun b o q n hb => ?_, fun b o q hb => ?_, ⟨fun b o q n hb _ => ?_, fun b o q n hb _ => ?_, fun b o q n _ => I.base.free b o q n (by simp [cxOf]), fun b o q _ => ?_, I.base.tups, I.base.frzs, I.base.tbls⟩, fun b u q => (I.hok b u q).stay (fun c o hc r => ?_) (fun _ q => q) fun _ _ q => q⟩, hE⟩
  · obtain ⟨o, r⟩ := ObjOk.some (I.hok b u q)
    exact ⟨o, PySem.W.hideAll_get _ r (trk b u q)⟩
  · exact PySem.W.hideAll_get _ (I.base.keep b o q n hb (by simp [cxOf])) (out b o q hb)
  · obtain ⟨o', r⟩ := I.base.there b o q (by simp [cxOf])
    exact ⟨o', PySem.W.hideAll_get _ r (out b o q hb)⟩
  · exact kB b o (I.base.keep b o q n hb (by simp [cxOf])) (out b o q hb)
  · obtain ⟨sl, r⟩ := I.base.slot b o q n hb (by simp [cxOf])
    obtain ⟨sl', r'⟩ := fr b _ hb r
    exact ⟨sl', r'⟩
  · obtain ⟨o', r⟩ := I.base.there b o q (by simp [cxOf])
    by_cases hb : b ∈ frs outer
    · obtain ⟨sl, r'⟩ := fr b o' hb r
      exact ⟨_, r'⟩
    · exact ⟨o', kB b o' r (out b o q hb)⟩
  · have ht : ∃ v, H c = some v := by
      rcases hc with z | z
      · exact ⟨u, z ▸ q⟩
      · exact ⟨_, z⟩
    obtain ⟨v, hv⟩ := ht
    exact kB c o r (trk c v hv)
noncomputable def bmV : List Value := [.type "ValueError", .type "Exception", .type "BaseException", .type "object"]
structure Xc (K : PySem.W.Frag) (mg : Str → Option Value) (x : Str) (C : Addr) : Prop where
  bound : mg x = some (.ref C)
  ex : PySem.W.excIn K C bmV "ValueError.__new__" = true
theorem exc_obj {K : PySem.W.Frag} {h : Heap} {C : Addr} {bmB : List Value} {nw : String} (X : K.In h) (q : PySem.W.excIn K C bmB nw = true) :
    ∃ bm N nm qn bs hdct sn sub ab col dd k0 k1 k2 k3 k5 mN, h.get? C = some (excClassObj nm qn C N bs bm hdct sn sub ab col dd k0 k1 k2 k3 k5 nw) ∧ h.Ns N mN ∧ mN "__init__" = none ∧ OwnTail h bmB bm := by
  unfold PySem.W.excIn at q
  cases ho : K.lookup C with
  | none => rw [ho] at q; cases q
  | some ob =>
    rw [ho] at q
    split at q
    · rename_i dd cd sl eo
      cases eo
      split at q
      · rename_i C' bm k0 k1 k2 k3 n k5 hm hs
        rw [Bool.and_eq_true, Bool.and_eq_true, Bool.and_eq_true, Bool.and_eq_true, Bool.and_eq_true] at q
        obtain ⟨⟨⟨⟨⟨q1, q2⟩, q3⟩, q4⟩, q5⟩, q6⟩ := q
        have q1 := beq_iff_eq.mp q1
        have q2 := beq_iff_eq.mp q2
        have q7 : PySem.W.nsIn K cd.ns "__init__" = some none := beq_iff_eq.mp q6
        obtain ⟨nm, bs, mro, ns, qn, hd, sn, sub, ab, col, del⟩ := cd
        simp only at hm q3 q5 q7
        have q3 : del = false := by simpa using q3
        subst q1 q2 hm q3
        have hsl : sl = #[k0, k1, k2, k3, some (.builtin n), k5] := Array.toList_inj.mp (by rw [hs])
        subst hsl
        refine ⟨bm, ns, nm, qn, bs, hd, sn, sub, ab, col, dd, k0, k1, k2, k3, k5, h.nsMap ns, ?_, ?_, ?_, ?_⟩
        · exact X _ _ ho
        · exact .of_isNs (PySem.W.isNs_of_in X q5)
        · exact PySem.W.nsMap_none_of_in X q5 q7
        · exact PySem.W.tail_of_in X q4
      · cases q
    · cases q
section
variable {X : Cx} {E : XK} {x : Str} {C : Addr} {np cpos pos p2 : Pos} {z : Str} {j : Nat}
noncomputable def Makes (X : Cx) (E : XK) : Prop := X.A.handled = none ∧ ∀ (pins : List (Addr × Obj)) (σ : St) (H : Hp) (s : Shared) (h1 : Heap) (e : Addr) (cls : Value) (vs : List Value), Inv X pins σ H s → Heap.MadeExcOf s.heap h1 e cls vs → E cls none H → X.xe (.ref e) { s with heap := h1 }
theorem ps_raise (mk : Makes X E) (O : Xc X.K X.mg x C) (hg : Gl X x := by rfl) (hd : (x == ("__debug__" : Str)) = false := by decide) {jj} :
    PS X (.Raise (some (.Call (.Name x np) [.Constant (.str z) jj p2] [] cpos)) none pos) (fun _ _ H => E (.ref C) none H) := by
  intro pins s σ H D I h
  obtain ⟨bm, N, nm, q, bs, hdct, sn, sub, ab, col, dd, k0, k1, k2, k3, k5, mN, hC, hN, hni, T⟩ := exc_obj I.ok.mod.kin O.ex
  refine wpAny_Raise_call_subT (C := C) (nm := nm) (q := q) (N := N) (bs := bs) (bm := bm) (hdct := hdct) (sn := sn) (sub := sub) (ab := ab) (col := col) (dd := dd) (k0 := k0) (k1 := k1) (k2 := k2) (k3 := k3) (k5 := k5) (mN := mN)
    PySem.F.excBase_ValueError (T.hasType PySem.F.excBase_ValueError.hasBase) mk.1 rfl hni (ld_glob I hg O.bound ⟨rfl, ?_⟩ hd)
  have hst : starEach [(.Constant (.str z) jj p2 : Expr)] X.env = (false, eval (.Constant (.str z) jj p2) X.env) :: starEach [] X.env := rfl
  rw [hst]
  refine Calls.evalArgs_plain ?_
  refine Calls.spliced_cons (thn (pe_str (pos := p2) (j := jj) (x := z) pins s σ H (fun _ H1 => H1 = H) I rfl) fun u s1 ⟨v, H1, I1, _, e1⟩ => Calls.spliced_nil ?_)
  subst e1
  refine ⟨rfl, by show 1 ≤ sizeLine; decide, I1.bk _ _ hC, hN.keeps I1.bk, T.keeps I1.bk, fun h1 e hm => mk.2 pins σ H1 s1 h1 e _ _ I1 hm h⟩
end
end L3
set_option Elab.async false
set_option linter.all false
set_option maxRecDepth 100000
set_option maxHeartbeats 4000000
set_option autoImplicit false
namespace L3
open PySem PySem.Spec L2
open PyProof.Rows hiding St
open PySem.W (Looks)
theorem isi_exc {prog : Program} {w : World} {A : Around} {E : Value → Shared → Prop} {s : Shared} {Q : Value → Shared → Prop} {K : PySem.W.Frag} {e C : Addr} {oe : Obj} {c : Value} (he : s.heap.get? e = some oe) (hc : oe.cls = .ref C) (X : K.In s.heap)
    (q : PySem.W.kitOne K (.ref C) c = some true) (h : Q (.bool true) s) : wpAny (model prog w) A (call (.builtin "isinstance") [.ref e, c]) Q E s := by
  refine call_isinstance_of ?_ (by intro z; cases z)
  unfold Builtin.«isinstance.nested»
  have LT : Looks (model prog w) s.heap (typeOf (.ref e)) (.ref C) := hc ▸ (Looks.ld he).andThen .now
  refine wpAny_bind (LT.at ?_)
  by_cases k : (Value.ref C == c) = true
  · rw [if_pos k]
    repeat (first | refine wpAny_pure ?_ | refine wpAny_rule ?_ | refine wpAny_bind ?_)
    exact h
  · rw [if_neg k]
    have q' : PySem.W.kitCls K (.ref C) c = some true := by
      unfold PySem.W.kitOne at q
      rw [if_neg k] at q; exact q
    obtain ⟨hty, his, hsub⟩ := PySem.W.kit_cls (M := model prog w) X q'
    have LI : Looks (model prog w) s.heap (isInstance (.ref e) c) true := LT.andThen hsub
    refine wpAny_bind (hty.at ?_)
    rw [if_pos (by decide)]
    refine wpAny_bind (wpAny_bind (m := isType c) (his.at ?_))
    refine wpAny_bind (m := isInstance (.ref e) c) (LI.at ?_)
    exact wpAny_pure (a := true) (wpAny_pure h)
theorem inv_gone {X : Cx} {pins : List (Addr × Obj)} {σ : St} {H : Hp} {s : Shared} {h' : Heap} {m' : Str → Option Value} {t : Nat} (I : Inv X pins σ H s) (hn : h'.Ns X.env.locals m') (hs : Heap.SameBut X.env.locals s.heap h') :
    Inv X pins (List.replicate σ.length none) H { s with heap := h', toks := t } := by
  have neL : ∀ b o, X.s₀.heap.get? b = some o → b ≠ X.env.locals := fun b o e => Nat.ne_of_lt (Nat.lt_of_lt_of_le (Heap.lt_size e) I.ok.above)
  refine ⟨I.ok, I.os, I.bare, ⟨fun b o e n hb hx => ?_, fun b o e n hb hx => ?_, I.base.free, fun b o e hx => ?_, I.base.tups, I.base.frzs, I.base.tbls⟩, ⟨m', hn, fun i y v _ e2 _ => ?_⟩, fun y c e => ?_, I.free, I.freeC, fun p hp => ?_, fun b o e => (I.hok b o e).stay (fun c u hc q => (hs.2 c ?_).trans q) (fun _ q => q) fun _ _ q => q, by simpa using I.len⟩
  · exact (hs.2 b (neL b o e)).trans (I.base.keep b o e n hb hx)
  · obtain ⟨sl, q⟩ := I.base.slot b o e n hb hx
    exact ⟨sl, (hs.2 b (neL b o e)).trans q⟩
  · obtain ⟨o', q⟩ := I.base.there b o e hx
    exact ⟨o', (hs.2 b (neL b o e)).trans q⟩
  · rw [List.getElem?_replicate] at e2
    split at e2 <;> cases e2
  · obtain ⟨v, z⟩ := I.cell y c e
    exact ⟨v, z.sameBut hs (I.cne y c e)⟩
  · obtain ⟨e, n, ne, nf, d⟩ := I.pin p hp
    exact ⟨(hs.2 p.1 ne).trans e, n, ne, nf, d⟩
  · rintro rfl
    rcases hc with z | z
    · rw [← z, I.free] at e; cases e
    · rw [I.free] at z; cases z
noncomputable abbrev Cx.tried (X : Cx) (pn : List (Addr × Obj)) (W : Value → Shared → Prop) : Cx := { X with pn := X.pn ++ pn, xe := W }
noncomputable abbrev Cx.caught (X : Cx) (e : Addr) (pn : List (Addr × Obj)) (W : Value → Shared → Prop) : Cx := { X with A := X.A.mark (some (.ref e)), calm := false, pn := X.pn ++ pn, xe := W }
section
variable {X : Cx} {pins pn : List (Addr × Obj)} {σ : St} {H : Hp} {s : Shared} {W : Value → Shared → Prop} {e : Addr}
theorem inv_tried (I : Inv X pins σ H s) (W : Value → Shared → Prop) : Inv (Cx.tried X pins W) [] σ H s :=
  ⟨⟨I.ok.mod, I.ok.kind, I.ok.glob, I.ok.blt, I.ok.above, I.ok.inj, I.ok.has, I.ok.cab, I.ok.hd, I.ok.frames, I.ok.stk, I.ok.exf, I.ok.bs, I.ok.bsz, I.ok.noex, I.ok.exfs, I.ok.funs, I.ok.frf⟩,
    I.os, I.bare, I.base, I.loc, I.cell, I.free, I.freeC, fun p hp => I.pin p (by simpa using hp), I.hok, I.len⟩
theorem inv_untried {pins' : List (Addr × Obj)} (I : Inv (Cx.tried X pn W) pins' σ H s) : Inv X pn σ H s :=
  ⟨⟨I.ok.mod, I.ok.kind, I.ok.glob, I.ok.blt, I.ok.above, I.ok.inj, I.ok.has, I.ok.cab, I.ok.hd, I.ok.frames, I.ok.stk, I.ok.exf, I.ok.bs, I.ok.bsz, I.ok.noex, I.ok.exfs, I.ok.funs, I.ok.frf⟩,
    I.os, I.bare, I.base, I.loc, I.cell, I.free, I.freeC, fun p hp => I.pin p (List.mem_append_left _ hp), I.hok, I.len⟩
theorem sp_untried {pins' : List (Addr × Obj)} {D : Ends} {f : Flow} {s' : Shared} (h : SP (Cx.tried X pn W) pins' D f s') : SP X pn D f s' := by
  cases f with
  | next => obtain ⟨σ', H', I, q⟩ := h; exact ⟨σ', H', inv_untried I, q⟩
  | brk => obtain ⟨σ', H', I, q⟩ := h; exact ⟨σ', H', inv_untried I, q⟩
  | cont => obtain ⟨σ', H', I, q⟩ := h; exact ⟨σ', H', inv_untried I, q⟩
  | ret u => obtain ⟨v, σ', H', I, r, q⟩ := h; exact ⟨v, σ', H', inv_untried I, r, q⟩
theorem inv_caught (I : Inv X pins σ H s) (W : Value → Shared → Prop) (e : Addr) (hm : (X.A.mark (some (.ref e))).frames = X.A.frames := by rfl) : Inv (Cx.caught X e pins W) [] σ H s :=
  ⟨⟨I.ok.mod, I.ok.kind, I.ok.glob, I.ok.blt, I.ok.above, I.ok.inj, I.ok.has, I.ok.cab, (fun z => nomatch z), hm.trans I.ok.frames, I.ok.stk, I.ok.exf, I.ok.bs, I.ok.bsz, I.ok.noex, I.ok.exfs, I.ok.funs, I.ok.frf⟩,
    I.os, I.bare, I.base, I.loc, I.cell, I.free, I.freeC, fun p hp => I.pin p (by simpa using hp), I.hok, I.len⟩
theorem inv_uncaught {p : Addr × Obj} {pins' : List (Addr × Obj)} (ok : X.Ok) (I : Inv (Cx.caught X e (p :: pn) W) pins' σ H s) : Inv X pn σ H s :=
  ⟨ok, I.os, I.bare, I.base, I.loc, I.cell, I.free, I.freeC, fun p hp => I.pin p (List.mem_append_left _ (by
    show p ∈ X.pn ++ _ :: pn
    rcases List.mem_append.mp hp with z | z
    · exact List.mem_append_left _ z
    · exact List.mem_append_right _ (List.mem_cons_of_mem _ z))), I.hok, I.len⟩
end
noncomputable def fTry (F : DS → M Out) (C : Addr) (k : Bool) (δ : DS) : M Out := match F δ with
  | some (.ok o) => some (.ok o)
  | some (.error c) => if c = .ref C then rt (.rt (.d (.bool k))) else none
  | none => none
section
variable {X : Cx} {E : XK} {body : List Stmt} {F : DS → M Out} {cn n : Str} {C : Addr} {i : Nat} {ex : Expr} {np hpos rpos pos : Pos} {k : Bool}
theorem st_try (O : Xc X.K X.mg cn C) (hN : X.N.Nodup) (hb : ∀ pn W E', Passes (CXR X.prog X.w) (Cx.tried X pn W) E' → PSd (Cx.tried X pn W) E' body F)
    (hs : ∀ e pn W oe, oe.cls = .ref C → (e, oe) ∈ pn → PE (Cx.caught X e pn W) ex (fun σ H Q => σ[i]? = some (some (.ref e)) ∧ Q (.bl k) H))
    (hst : X.stack = X.env :: X.outer := by rfl) (hfm : X.env.frame = some X.env.locals := by rfl) (hg : Gl X cn := by rfl) (hi : X.N[i]? = some n := by rfl) (hloc : X.env.scope.names.lookup n = some .local := by rfl) (hfn : X.fn n = true := by rfl) (hd : (cn == ("__debug__" : Str)) = false := by decide) :
    PSt X E (.Try body [.ExceptHandler (some (.Name cn np)) (some n) [.Return (some ex) rpos] hpos] [] [] pos) (fTry F C k) := by
  intro pins s σ H T I q
  obtain ⟨O', P, δ, r, rs, e, q⟩ := q
  refine wpAny_Try_except ?_
  have pass : Passes (CXR X.prog X.w) (Cx.tried X pins fun e s₁ => wpAny (model X.prog X.w) X.A (noteFrame e X.env) (fun _ s₂ => wpAny (model X.prog X.w) X.A (setFlight e none) (fun _ s₃ =>
      wpAny (model X.prog X.w) X.A (handleBy e X.env [.ExceptHandler (some (.Name cn np)) (some n) [.Return (some ex) rpos] hpos]) (SP X pins T) X.xe s₃) X.xe s₂) X.xe s₁) (fun cls _ H' => cls = .ref C ∧ T.rt (.bl k) H') := by
    intro pins' σ' H1 s1 e s' I1 cx
    obtain ⟨x, cls, dx, H', B, a0, rfl, Fl, rfl, hT⟩ := cx
    have Fl : Fly X.prog X.w X.stack s1 H1 (.ref C) x H' B a0 s' := Fl
    have fr : X.A.frames = some (X.env :: X.outer) := by rw [← hst]; exact I.ok.frames
    refine wpAny_looks_onW (L := X.env.locals) fr hfm (hst ▸ Fl.fly) fun h4 hheld sm4 => ?_
    refine wpAny_landsW hheld fun h5 fl5 sm5 => ?_
    have F5 := Fl.go (hst.symm ▸ fl5) (sm4.trans sm5)
    have I5 : Inv X pins σ' H' { s' with heap := h5 } := inv_untried (Fly.inv I1 F5)
    obtain ⟨ob, hob, hobc⟩ := fl5.there
    refine wpAny_handleBy_cons (codeAny_handlers_test (ld_glob (X := Cx.caught X x pins X.xe) (inv_caught I5 X.xe x) hg O.bound ?_ hd)) (by intro z; cases z)
    obtain ⟨bm, N, nm, qn, bs, hdct, sn, sub, ab, col, dd, k0, k1, k2, k3, k5, mN, hC, hN', hni, Tl⟩ := exc_obj I5.ok.mod.kin O.ex
    refine wpAny_excMatches_sub_self (I5.bk _ _ hC) hob hobc (Tl.hasType PySem.F.excBase_ValueError.hasBase) (codeAny_handlers_suite_as ?_)
    refine lands_againW fl5 fun h6 fl6 sm6 => ?_
    have F6 := F5.go (hst.symm ▸ fl6) sm6
    have I6 : Inv X pins σ' H' { s' with heap := h6 } := inv_untried (Fly.inv I1 F6)
    obtain ⟨oe, vs, he, hec, hed, _⟩ := fl6.first
    have nfr : ∀ b, b ∈ frs X.stack → x ≠ b := fun b hbm z => by
      obtain ⟨_, o', e', hdd⟩ := I6.stack.mem hbm
      have e'' : h6.get? b = some o' := e'
      rw [← z, he] at e''
      cases e''
      exact hdd vs hed
    have I6' : Inv X ((x, oe) :: pins) σ' H' { s' with heap := h6 } := I6.pins_of fun p hp => by
      rcases List.mem_cons.mp hp with z | z
      · subst z
        refine ⟨he, Fl.free, fun z => nfr X.env.locals ?_ z, fun z => nfr x ?_ rfl, fun v z => ?_⟩
        · rw [hst]
          show X.env.locals ∈ frs (X.env :: X.outer)
          unfold frs
          rw [List.filterMap_cons, hfm]
          exact List.mem_cons_self
        · rw [hst]
          show x ∈ frs (X.env :: X.outer)
          unfold frs
          rw [List.filterMap_cons, hfm]
          exact List.mem_cons_of_mem _ z
        · rw [hed] at z; cases z
      · exact I6.pin p (List.mem_append_right _ z)
    refine store_ok (X := Cx.caught X x ((x, oe) :: pins) fun _ _ => False) (inv_caught I6' _ x) hN hi (.inl hloc) (v := .ref x) rfl (fun s7 I8 => ?_) (.inl hfn)
    have hlen : i < σ'.length := by rw [I6.len]; exact (List.getElem?_eq_some_iff.mp hi).1
    refine wpAny_mono (pss_one (ps_ret (hs x _ _ oe hec List.mem_cons_self)) [] s7 _ H' { nx := fun _ _ => False, rt := fun v H2 => v = .bl k ∧ H2 = H' } I8 ⟨by rw [List.getElem?_set_self hlen], rfl, rfl⟩) (fun f s8 h8 => ?_) fun _ _ z => z.elim
    cases f with
    | next => obtain ⟨_, _, _, z⟩ := h8; exact z.elim
    | brk => obtain ⟨_, _, _, z⟩ := h8; exact z.elim
    | cont => obtain ⟨_, _, _, z⟩ := h8; exact z.elim
    | ret u =>
      obtain ⟨v, σ2, H2, I9, rv, rfl, rfl⟩ := h8
      have I10 : Inv X pins σ2 H2 s8 := inv_uncaught I.ok I9
      obtain ⟨m, hm, _⟩ := I10.loc
      exact wpAny_nameGoes hloc hm (by rw [I.ok.kind]; rfl) fun h9 m9 hn9 hs9 => ⟨.bl k, _, H2, inv_gone I10 hn9 hs9, rv, hT⟩
  have fin : ∀ r', F δ = some r' → FnS (fun cls _ H' => cls = .ref C ∧ T.rt (.bl k) H') O' P H T r' → wpAny (model X.prog X.w) X.A (execs body X.env) (fun f s1 => match f with | .next => wpAny (model X.prog X.w) X.A (execs [] X.env) (SP X pins T) X.xe s1 | f => SP X pins T f s1) (fun e s₁ => wpAny (model X.prog X.w) X.A (noteFrame e X.env) (fun _ s₂ => wpAny (model X.prog X.w) X.A (setFlight e none) (fun _ s₃ =>
      wpAny (model X.prog X.w) X.A (handleBy e X.env [.ExceptHandler (some (.Name cn np)) (some n) [.Return (some ex) rpos] hpos]) (SP X pins T) X.xe s₃) X.xe s₂) X.xe s₁) s := fun r' e' q' => by
    refine wpAny_mono (hb pins _ _ pass [] s σ H T (inv_tried I _) ⟨O', P, δ, r', rs, e', q'⟩) (fun f s1 h => ?_) fun _ _ z => z
    have h' := sp_untried h
    cases f with
    | next => exact wpAny_execs_nil h'
    | brk => exact h'
    | cont => exact h'
    | ret u => exact h'
  unfold fTry at e
  split at e
  · rename_i o e'
    cases e
    refine fin (.ok o) e' ?_
    cases o <;> exact q
  · rename_i c e'
    split at e
    · rename_i hc
      cases e
      refine fin (.error c) e' fun dx H' P' kp => ⟨hc, ?_⟩
      have kp0 : Kp P H [] H' := ⟨kp.keep, fun a ha => nomatch ha⟩
      refine q (.bl k) H' H' [] kp0 (Same.refl H') (fun a ha => ?_) (fun a ha => nomatch ha) (.bool k)
      obtain ⟨o, eo⟩ := rs.dom a (List.mem_append_right _ (by simpa using ha))
      exact ⟨o, kp.keep a o (fun z => rs.apart a z (by simpa using ha)) eo⟩
    · cases e
  · cases e
end
end L3
set_option Elab.async false
set_option linter.all false
set_option maxRecDepth 100000
set_option maxHeartbeats 4000000
set_option autoImplicit false
namespace L3
open PySem PySem.Spec L2
open PyProof.Rows hiding St
section
variable {X : Cx} {e C : Addr} {oe : Obj} {i : Nat} {n y : Str} {p p1 p2 pos : Pos} {c : Value}
noncomputable def tEx (i : Nat) (e : Addr) (k : Bool) : TE := fun σ H Q => σ[i]? = some (some (.ref e)) ∧ Q (.bl k) H
theorem pe_isX (hp : (e, oe) ∈ X.pn) (hc : oe.cls = .ref C) (q : PySem.W.kitOne X.K (.ref C) c = some true) (hm : X.mg "isinstance" = none) (hn : PE X (.Name n p1) (tVar i))
    (hy : ∀ (pins : List (Addr × Obj)) (s : Shared) (σ : St) (H : Hp) (Q : Value → Shared → Prop), Inv X pins σ H s → Q c s → wpAny (model X.prog X.w) X.A (eval (.Name y p2) X.env) Q X.xe s) (hg : Gl X "isinstance" := by rfl)
    (he : starEach [.Name n p1, .Name y p2] X.env = (false, eval (.Name n p1) X.env) :: starEach [.Name y p2] X.env := by rfl) (he2 : starEach [(.Name y p2 : Expr)] X.env = (false, eval (.Name y p2) X.env) :: starEach [] X.env := by rfl)
    (hpl : (backTo pos (starEach [.Name y p2] X.env)).any (·.1) = false := by rfl) : PE X (.Call (.Name "isinstance" p) [.Name n p1, .Name y p2] [] pos) (tEx i e true) := by
  intro pins s σ H Q I h
  refine wpAny_Call_Name_kw (ld_blt I hg hm bt_isinstance ?_)
  refine PyProof.Rows.callWith_builtin1 (PyProof.Rows.spliced_more (thn (hn pins s σ H (fun v H1 => v = .ref e ∧ H1 = H) I ⟨.ref e, h.1, rfl, rfl⟩) fun u s1 ⟨v, H1, I1, r1, ev, eH⟩ => PyProof.Rows.spliced_more (hy pins s1 σ H1 _ I1 ?_) he2) he) he hpl
  subst ev eH
  cases r1
  refine PyProof.Rows.spliced_none ?_
  obtain ⟨g, _⟩ := I1.pin _ (List.mem_append_left _ hp)
  exact isi_exc (K := X.K) g hc I1.kIn q ⟨.bl true, H1, I1, rfl, h.2⟩
theorem pe_isO {D : Addr} (hp : (e, oe) ∈ X.pn) (hc : oe.cls = .ref C) (q : PySem.W.kitOne X.K (.ref C) (.ref D) = some true) (hm : X.mg "isinstance" = none) (hmy : X.mg y = some (.ref D)) (hn : PE X (.Name n p1) (tVar i)) (hg : Gl X "isinstance" := by rfl) (hgy : Gl X y := by rfl) (hd : (y == ("__debug__" : Str)) = false := by decide)
    (he : starEach [.Name n p1, .Name y p2] X.env = (false, eval (.Name n p1) X.env) :: starEach [.Name y p2] X.env := by rfl) (he2 : starEach [(.Name y p2 : Expr)] X.env = (false, eval (.Name y p2) X.env) :: starEach [] X.env := by rfl)
    (hpl : (backTo pos (starEach [.Name y p2] X.env)).any (·.1) = false := by rfl) : PE X (.Call (.Name "isinstance" p) [.Name n p1, .Name y p2] [] pos) (tEx i e true) :=
  pe_isX hp hc q hm hn (fun _ _ _ _ _ I h => ld_glob I hgy hmy h hd) hg he he2 hpl
theorem pe_isT {T : String} (hp : (e, oe) ∈ X.pn) (hc : oe.cls = .ref C) (q : PySem.W.kitOne X.K (.ref C) (.type T) = some true) (hm : X.mg "isinstance" = none) (hmy : X.mg y = none) (hv : bootBuiltins y = some (.type T)) (hn : PE X (.Name n p1) (tVar i)) (hg : Gl X "isinstance" := by rfl) (hgy : Gl X y := by rfl) (hnm : y ≠ "__name__" := by decide) (hd : (y == ("__debug__" : Str)) = false := by decide)
    (he : starEach [.Name n p1, .Name y p2] X.env = (false, eval (.Name n p1) X.env) :: starEach [.Name y p2] X.env := by rfl) (he2 : starEach [(.Name y p2 : Expr)] X.env = (false, eval (.Name y p2) X.env) :: starEach [] X.env := by rfl)
    (hpl : (backTo pos (starEach [.Name y p2] X.env)).any (·.1) = false := by rfl) : PE X (.Call (.Name "isinstance" p) [.Name n p1, .Name y p2] [] pos) (tEx i e true) :=
  pe_isX hp hc q hm hn (fun _ _ _ _ _ I h => ld_blt I hgy hmy hv h hnm hd) hg he he2 hpl
theorem pe_exAnd {a b : Expr} {rest : List Expr} {k : Bool} (ha : PE X a (tEx i e true)) (hb : PE X (.BoolOp .And (b :: rest) pos) (tEx i e k)) : PE X (.BoolOp .And (a :: b :: rest) pos) (tEx i e k) :=
  PE.mono (pe_and ha hb) fun σ H Q h => ⟨h.1, true, rfl, iteT h⟩
theorem passR0 {P : Program} {w : World} : Passes (CXR P w) X E0 := fun _ _ _ _ _ _ _ ⟨_, _, _, _, _, _, _, _, h⟩ => h.elim
end
noncomputable def spI (C CB : Addr) (good : Int → Int → Bool) (f1 f2 : Str) : Sp := fun vs H Q E => ∃ p dx m c, vs = [.ref p, .int m, .int c] ∧ H p = some (.ins C dx []) ∧
  ∀ H1, Same H H1 → if good m c = true then Q .non (upd (upd H1 p (.ins C dx (putF f1 (.int m) []))) p (.ins C dx (putF f2 (.int c) (putF f1 (.int m) [])))) else E (.ref CB) none H1
structure Hs (P : Program) (w : World) (K : PySem.W.Frag) (mg : Str → Option Value) (base : Heap) (x : Str) (C CB : Addr) (good : Int → Int → Bool) (f1 f2 : Str) : Prop where
  ex : ∃ f fd ps, Mk K C f ∧ FnOk P w K mg base (CXR P w) 1 f fd ps (spI C CB good f1 f2) ∧ Binds K fd ps [] ∧ mg x = some (.ref C)
noncomputable def mkH (C CB : Addr) (good : Int → Int → Bool) (f1 f2 : Str) (xs : List DV) : M DV := match xs with
  | [.d (.int m), .d (.int c)] => if good m c = true then rt (.ob C [(f1, .int m), (f2, .int c)]) else some (.error (.ref CB))
  | _ => none
theorem putF2 {f1 f2 : Str} (h : f1 ≠ f2) (v u : V) : putF f2 u (putF f1 v []) = [(f1, v), (f2, u)] := by
  show (if f1 = f2 then _ else _) = _
  rw [if_neg h]; rfl
section
variable {X : Cx} {E : XK} {e : Expr} {es : List Expr} {pos p : Pos} {fr : DS → M (List DV)}
theorem px_make {x : Str} {C CB : Addr} {good : Int → Int → Bool} {f1 f2 : Str} (h : Hs X.prog X.w X.K X.mg X.base x C CB good f1 f2) (hf : f1 ≠ f2) (hr : Room 2 X.A) (pass : Passes (CXR X.prog X.w) X E) (ha : PAs X E (e :: es) fr) (hg : Gl X x := by rfl) (hdb : (x == ("__debug__" : Str)) = false := by decide)
    (he : starEach (e :: es) X.env = (false, eval e X.env) :: starEach es X.env := by rfl) (hpl : (backTo pos (starEach es X.env)).any (·.1) = false := by rfl) : PX X E (.Call (.Name x p) (e :: es) [] pos) (eCb (mkH C CB good f1 f2) fr) := by
  obtain ⟨f, fd, ps, hM, hF, hb, hm⟩ := h.ex
  refine PE.mono (pe_make hM hF hr hg hm hb .nil pass ha hdb he hpl) fun σ H Q q => tA_bd (g := fun _ => mkH C CB good f1 f2) q fun O P δ xs r vs H1 rs rs1 s1 rx e q => ?_
  unfold mkH at e
  split at e
  · rename_i m c
    cases rx with
    | cons r1 rr =>
      cases rr with
      | cons r2 rr =>
        cases rr
        cases r1
        cases r2
        intro x dx nx ndx ne
        refine ⟨x, dx, m, c, rfl, zjj, fun H2 s2 => ?_⟩
        have sH : Same H1 H2 := fun b o q => s2 b o (by rw [zqq (zkx q nx), zqq (zkx q ndx)]; exact q)
        split at e
        · rename_i hgood
          rw [if_pos hgood]
          cases e
          refine ⟨rfl, q _ _ (fun b o q => ?_) ⟨x, dx, _, rfl, fun z => ?_, zjj, ?_⟩⟩
          · rw [zqq (zkx q nx), zqq (zkx q nx)]; exact sH b o q
          · obtain ⟨o, q⟩ := rs1.dom x z
            rw [nx] at q; cases q
          · rw [putF2 hf]
            exact .cons ⟨rfl, .int m⟩ (.cons ⟨rfl, .int c⟩ .nil)
        · rename_i hgood
          rw [if_neg hgood]
          cases e
          exact q none H2 sH
  · cases e
end
end L3
set_option Elab.async false
set_option linter.all false
set_option maxRecDepth 100000
set_option maxHeartbeats 4000000
set_option autoImplicit false
namespace L3
open PySem PySem.Spec L2
open PyProof.Rows hiding St
theorem pass_on {P : Program} {w : World} {K : PySem.W.Frag} {mg : Str → Option Value} {base : Heap} {N : List Str} {qual : Str} {scope : Scope} {f : Addr} {cd : Value} {A : Around} {outer : List Env} {s0 : Shared} {H0 : Hp} {E : XK} :
    Passes (CXR P w) (cxOf (CXR P w) P w K mg base N qual scope f cd A outer s0 H0 E) E := by
  intro pins σ H s e s' I cx
  obtain ⟨x, cls, dx, H', B, a0, rfl, Fl, hE⟩ := cx
  have hl : ∀ b, b ∈ frs (envOfC qual scope s0.heap.objs.size f cd :: outer) ↔ b = s0.heap.objs.size ∨ b ∈ frs outer := fun b => by
    show b ∈ s0.heap.objs.size :: frs outer ↔ _
    exact List.mem_cons
  have out : ∀ b o, s0.heap.get? b = some o → b ∉ frs outer → b ∉ frs (envOfC qual scope s0.heap.objs.size f cd :: outer) := fun b o q n z => by
    rcases (hl b).mp z with z | z
    · exact Nat.ne_of_lt (Heap.lt_size q) z
    · exact n z
  have Fl : Fly P w (envOfC qual scope s0.heap.objs.size f cd :: outer) s H cls x H' B a0 s' := Fl
  refine wpAny_leaves_onW (L := s0.heap.objs.size) I.ok.frames rfl Fl.fly fun h2 f2 u => ?_
  have fr : ∀ b o, b ∈ frs outer → s'.heap.get? b = some o → ∃ sl, h2.get? b = some { o with slots := sl } := fun b o hb q => by
    obtain ⟨_, o', e', hd⟩ := Fl.fly.2.2.1.mem (show b ∈ frs (envOfC qual scope s0.heap.objs.size f cd :: outer) from (hl b).mpr (.inr hb))
    rw [q] at e'; cases e'
    exact u b o q hd
  have old : ∀ b o, s0.heap.get? b = some o → H0 b = none → b ∉ frs outer → B.get? b = some o := fun b o q n hb =>
    Fl.old b o (I.base.keep b o q n hb (by simp [cxOf])) (I.base.free b o q n (by simp [cxOf])) (out b o q hb)
  have all : ∀ b o, s0.heap.get? b = some o → b ∉ frs outer → ∃ o', B.get? b = some o' := fun b o q hb => by
    obtain ⟨o', r⟩ := I.base.there b o q (by simp [cxOf])
    exact Fl.all b o' r (out b o q hb)
  refine ⟨x, cls, dx, H', B, a0, rfl, ⟨Fl.os.trans I.os, Fl.bare, f2, Fl.trk, old, all, ⟨fun b o q n hb _ => f2.1 b o (old b o q n hb), fun b o q n hb _ => ?_, fun b o q n _ => ?_, fun b o q _ => ?_, fun b xs q => Fl.un.tups b xs (I.base.tups b xs q), fun b o xs q => Fl.un.frzs b o xs (I.base.frzs b o xs q), fun b ps q => ?_⟩, fun b v q => (Fl.hok b v q).stay (fun c o hc r => ?_) (fun _ q => q) fun _ _ q => q⟩, hE⟩
  · obtain ⟨sl, r⟩ := I.base.slot b o q n hb (by simp [cxOf])
    obtain ⟨sl', r'⟩ := Fl.un.slot b _ r (I.base.free b o q n (by simp [cxOf])) ((hl b).mpr (.inr hb)) (by simp)
    obtain ⟨sl2, r2⟩ := fr b _ hb r'
    exact ⟨sl2, r2⟩
  · obtain ⟨o', r⟩ := I.base.there b o q (by simp [cxOf])
    exact Fl.un.free b o' r (I.base.free b o q n (by simp [cxOf])) (by simp)
  · obtain ⟨o', r⟩ := I.base.there b o q (by simp [cxOf])
    by_cases hb : b ∈ frs outer
    · obtain ⟨o2, r2⟩ := Fl.un.there b o' r (by simp)
      obtain ⟨sl, r3⟩ := fr b o2 hb r2
      exact ⟨_, r3⟩
    · obtain ⟨o2, r2⟩ := all b o q hb
      exact ⟨o2, f2.1 b o2 r2⟩
  · obtain ⟨m1, e1⟩ := I.base.tbls b ps q
    obtain ⟨m2, e2⟩ := Fl.un.tbls b _ e1
    exact ⟨m1 ++ m2, by rw [e2, Array.append_assoc]⟩
  · have ht : ∃ v', H' c = some v' := by
      rcases hc with z | z
      · exact ⟨v, z ▸ q⟩
      · exact ⟨_, z⟩
    obtain ⟨v', hv'⟩ := ht
    obtain ⟨o2, e2⟩ := Fl.trk c v' hv'
    have := Fl.fly.1 c o2 e2
    rw [r] at this; cases this
    exact f2.1 c _ e2
noncomputable def spX (n : Nat) (fm : List DV → M DV) : Sp := fun vs H Q E => vs.length = n ∧ ∃ O xs r, (∀ a, a ∈ O → ∃ o, H a = some o) ∧ REs O [] H H xs vs ∧ fm xs = some r ∧ Fn E O [] H H Q r
theorem fnX {P : Program} {w : World} {K : PySem.W.Frag} {mg : Str → Option Value} {base : Heap} {x qual : Str} {st : Stmt} {f : Addr} {fd : FuncData} {N ps : List Str} {k n : Nat} {F : DS → M Out} (Fu : Fun K x qual st f fd) (S : FnScope N ps (zzj st)) (hn : ps.length = n)
    (body : ∀ (cdv : Value) (A : Around) (outer : List Env) (s : Shared) (H : Hp) (E : XK), Room k (A.deeper (envOfC qual (zzj st) s.heap.objs.size f cdv)) →
      PSd (cxOf (CXR P w) P w K mg base N qual (zzj st) f cdv A outer s H E) E (zxa st) F) : FnOk P w K mg base (CXR P w) (k + 1) f fd ps (spX n (mir N F)) := by
  obtain ⟨oc, od, kV, doc, pm, an, cdv, ct, osl, rfl, lk, hcd⟩ := Fu.ex
  refine fn_of lk hcd S (fun vs H Q E h => h.1.trans hn.symm) fun A outer s H vs Q E hr hsp => ⟨_, body cdv A outer s H E hr, ?_⟩
  obtain ⟨_, O, xs, r, dom, rx, e, q⟩ := hsp
  rcases zze e with ⟨o, e1, e2⟩ | ⟨c, e1, e2⟩
  · refine ⟨O, [], dst N xs, .ok o, RS.start dom rx, e1, ?_⟩
    cases o with
    | rt y =>
      cases e2
      intro v H1 H' P' k' s' _ _ ry
      obtain ⟨sH, ry'⟩ := ry.out k' s'
      exact q v H' sH ry'
    | nx δ =>
      cases e2
      intro σ' H' P' k' _
      exact q .non H' (fun b o e => k'.keep b o (by simp) e) .none
    | bk δ => cases e2
    | ct δ => cases e2
  · subst e2
    exact ⟨O, [], dst N xs, .error c, RS.start dom rx, e1, fun dx H' P' k' => q dx H' fun b o e => k'.keep b o (by simp) e⟩
structure HasX (P : Program) (w : World) (K : PySem.W.Frag) (mg : Str → Option Value) (base : Heap) (k : Nat) (x : Str) (n : Nat) (fm : List DV → M DV) : Prop where
  ex : ∃ fn fd ps, FnOk P w K mg base (CXR P w) k fn fd ps (spX n fm) ∧ mg x = some (.ref fn) ∧ PySem.W.keepIn K (.ref fn) = true ∧ Binds K fd ps []
theorem HasX.mono {P : Program} {w : World} {K : PySem.W.Frag} {mg : Str → Option Value} {base : Heap} {j k : Nat} {x : Str} {n : Nat} {fm : List DV → M DV} (h : HasX P w K mg base j x n fm) (hj : j ≤ k) : HasX P w K mg base k x n fm := by
  obtain ⟨fn, fd, ps, h1, h2, h3, h4⟩ := h.ex
  exact ⟨fn, fd, ps, h1.mono hj, h2, h3, h4⟩
theorem Df.hasX {P : Program} {w : World} {K : PySem.W.Frag} {mg : Str → Option Value} {base : Heap} {x : Str} {st : Stmt} {ps : List Str} {k n : Nat} {fm : List DV → M DV} (D : Df K mg x st ps)
    (h : ∀ f fd, Fun K x x st f fd → FnOk P w K mg base (CXR P w) k f fd ps (spX n fm)) : HasX P w K mg base k x n fm := by
  obtain ⟨f, fd, Fu, hm, hb⟩ := D
  exact ⟨f, fd, ps, h f fd Fu, hm, Fu.kp, hb⟩
noncomputable def gCallX (n : Nat) (fm : List DV → M DV) (xs : List DV) : M DV := bd (op (args xs)) fun ys => if ys.length = n then fm ys else none
section
variable {X : Cx} {E : XK} {e : Expr} {es : List Expr} {pos p np cpos p2 : Pos} {fr : DS → M (List DV)} {x : Str} {C : Addr} {z : Str} {jj : Nat}
theorem px_hasX {k n : Nat} {fm : List DV → M DV} (F : HasX X.prog X.w X.K X.mg X.base k x n fm) (hr : Room k X.A) (pass : Passes (CXR X.prog X.w) X E) (ha : PAs X E (e :: es) fr) (hg : Gl X x := by rfl) (hdb : (x == ("__debug__" : Str)) = false := by decide)
    (he : starEach (e :: es) X.env = (false, eval e X.env) :: starEach es X.env := by rfl) (hpl : (backTo pos (starEach es X.env)).any (·.1) = false := by rfl) :
    PX X E (.Call (.Name x p) (e :: es) [] pos) (eCb (gCallX n fm) fr) := by
  obtain ⟨fn, fd, ps, h1, h2, h3, h4⟩ := F.ex
  refine PE.mono (pe_call h1 hr hg h2 h3 h4 .nil pass ha hdb he hpl) fun σ H Q q => tA_bd (g := fun _ => gCallX n fm) q fun O P δ xs r vs H1 rs rs1 s1 rx e q => ?_
  obtain ⟨ys, e1, e2⟩ := bd_op e
  split at e2
  · rename_i hl
    have ry := REs.hand rs.dom s1 rx e1
    refine ⟨?_, P ++ O, ys, r, fun a ha => ?_, ?_, e2, ?_⟩
    · rw [List.append_nil, ← Paired.length ry]; exact hl
    · obtain ⟨o, e'⟩ := rs.dom a ha
      exact ⟨o, s1 a o e'⟩
    · rw [List.append_nil]; exact ry
    · cases r with
      | ok y => exact fun v H' s2 rv => q v H' s2 (rv.back s1)
      | error c => exact q
  · cases e2
theorem st_raise (mk : Makes X E) (O : Xc X.K X.mg x C) (hg : Gl X x := by rfl) (hd : (x == ("__debug__" : Str)) = false := by decide) :
    PSt X E (.Raise (some (.Call (.Name x np) [.Constant (.str z) jj p2] [] cpos)) none pos) (fun _ => some (.error (.ref C))) := PS.mono (ps_raise mk O hg hd) fun T σ H q => by
  obtain ⟨O', P, δ, r, rs, e, q⟩ := q
  cases e
  exact q none H P .refl
end
theorem makes_fn {P : Program} {w : World} {K : PySem.W.Frag} {mg : Str → Option Value} {base : Heap} {N : List Str} {qual : Str} {scope : Scope} {f : Addr} {cd : Value} {A : Around} {outer : List Env} {s0 : Shared} {H0 : Hp} {E : XK} {k : Nat}
    (hr : Room k (A.deeper (envOfC qual scope s0.heap.objs.size f cd))) : Makes (cxOf (CXR P w) P w K mg base N qual scope f cd A outer s0 H0 E) E := ⟨hr.hd, fun _ _ _ _ _ _ _ _ I hm hE => xe_made I hm hE⟩
end L3
set_option Elab.async false
set_option linter.all false
set_option maxRecDepth 100000
set_option maxHeartbeats 4000000
set_option autoImplicit false
namespace L3
open PySem PySem.Spec L2
open PyProof.Rows hiding St
open PySem.W (Looks)
open Builtin Builtin.ObjectAttr Builtin.Getset_descriptor
noncomputable def IsX (x D : Addr) (h : Heap) : Prop := ∃ o, h.get? x = some o ∧ o.cls = .ref D
section
variable {prog : Program} {w : World} {A : Around} {E : Value → Shared → Prop} {s : Shared} {K : PySem.W.Frag} {x D : Addr}
theorem IsX.ty {M : Model} {h : Heap} (I : IsX x D h) : Looks M h (typeOf (.ref x)) (.ref D) := by
  obtain ⟨o, e, c⟩ := I
  exact c ▸ (Looks.ld e).andThen .now
end
section
variable {X : Cx} {e C : Addr} {oe : Obj} {i : Nat} {n y : Str} {p p1 p2 pos : Pos} {c : Value} {b : Bool}
end
end L3
set_option Elab.async false
set_option linter.all false
set_option maxRecDepth 100000
set_option maxHeartbeats 4000000
namespace L2
open PySem PySem.Spec PyProof.Rows
section
variable {X : Cx} {k : Nat} {js : List Nat} {N' : List Str} {scope : Scope} {elt tg iter : Expr} {ifs : List Expr} {pos : Pos} {wi : TI} {g : TG} {tc : TT} {te : TE}
theorem comp_use {use : Option (Value → Sem Unit)} {Q' : Value → Shared → Prop} {ip : Pos} (S : CompFit X k js N' scope) (hc : X.calm = true) (hi : PI X tg iter wi)
    (hg : ∀ C s₂ H₂ fp, PG (zqk X N' scope C s₂ H₂ fp) tg g) (hf : ∀ C s₂ H₂ fp, PF (zqk X N' scope C s₂ H₂ fp) ifs tc) (he : ∀ C s₂ H₂ fp, PE (zqk X N' scope C s₂ H₂ fp) elt te)
    {pins : List (Addr × Obj)} {s : Shared} {σ : St} {H : Hp} {Q : VK} (I : Inv X pins σ H s) (h : tComp wi k js g tc te σ H Q)
    (hend : ∀ (D C : Addr) (s4 : Shared) (m : Str → Option Value), s4.heap.Ns C m → X.s₀.heap.objs.size ≤ C → C ≠ X.env.locals → (∀ x c, X.env.cells.lookup x = some c → c ≠ C) → (∀ p ∈ X.pn ++ pins, p.1 ≠ C) →
      (∀ h', Heap.SameBut C s4.heap h' → ∃ H5, Inv X pins σ H5 { s4 with heap := h' } ∧ H5 C = none ∧ Q (.ref D) H5) → compPost (model X.prog X.w) X.A X.xe use Q' (.ref D) C (.ok .next) s4)
    (hs : ∀ x, foldedSetIterable iter X.env x = pure x) :
    wpAny (model X.prog X.w) X.A (comprehension (.ListComp elt [⟨tg, iter, ifs, 0⟩] scope pos) scope X.env ip (newList []) false (eval iter X.env) use) Q' X.xe s := by
  refine wpAny_comprehension_free (use := use) rfl hs (closFor fun y hy hk => I.ok.has y.1 (S.free y hy hk)) S.kind S.loc ?_
  refine thn (hi pins s σ H _ I h) fun v s1 h1 => thn h1 fun itv s₂ h2 => ?_
  obtain ⟨it, fp, tn, J, H₂, rfl, I2, T, st2, f2, W, ⟨m0, w0⟩, turn⟩ := h2
  have lt2 : ∀ b ∈ fp, b < s₂.heap.objs.size := fun b hb => by obtain ⟨o, e, _⟩ := T.obj 0 _ st2 b hb; exact Heap.lt_size e
  refine wpAny_newObj_type (wpAny_newFunctionEnv S.nocell (by intro y hy; simp at hy) (fun h₁ hns₁ hsb₁ => ?_) S.kind)
  dsimp only at hns₁ hsb₁ ⊢
  generalize hH2 : s₂.heap.push { cls := .type "list", dict := none, data := .seq ([] : List Value).toArray } = G at hns₁ hsb₁ ⊢
  have hC : G.objs.size = s₂.heap.objs.size + 1 := by rw [← hH2, Heap.size_push]
  have hDC : s₂.heap.objs.size ≠ G.objs.size := by lia
  have hCle : s₂.heap.objs.size ≤ G.objs.size := by lia
  have old : ∀ b o, s₂.heap.get? b = some o → h₁.get? b = some o := fun b o e => hsb₁.extBut b o (addr_ne e hCle) (Heap.get?_push_of_some _ (hH2 ▸ Heap.get?_push_of_some _ e))
  have hacc : h₁.get? s₂.heap.objs.size = some { cls := .type "list", data := .seq ([] : List Value).toArray } := hsb₁.extBut _ _ hDC (Heap.get?_push_of_some _ (hH2 ▸ Heap.get?_push_size _ rfl))
  have hf2 : ∀ b ∈ fp, FpOk X pins H₂ b ∧ b < s₂.heap.objs.size := fun b hb => ⟨f2 b hb, lt2 b hb⟩
  have I0 : ∀ tk, Inv (zqk X N' scope G.objs.size s₂ H₂ fp) [] (subSt k js σ) H₂ { s₂ with heap := h₁, toks := tk } := fun tk => comp_start I2 S hCle hf2 old hns₁
  generalize hD : s₂.heap.objs.size = D at *
  have hDnone : ∀ {H' : Hp} {s' : Shared} {σ' : St} {pp : List (Addr × Obj)} {o : Obj}, Inv (zqk X N' scope G.objs.size s₂ H₂ fp) (pp ++ [(D, o)]) σ' H' s' → H' D = none ∧ s'.heap.get? D = some o := fun {H' s' σ' pp o} J => by
    have q := J.pin (D, o) (List.mem_append_right _ (List.mem_append_right _ (List.mem_singleton.mpr rfl)))
    exact ⟨q.2.1, q.1⟩
  have hDfs : D ∉ frs X.stack := fun z => by
    obtain ⟨_, o, ho, _⟩ := I2.stack.mem z
    exact addr_ne ho (Nat.le_of_eq hD) rfl
  have hDcell : ∀ x c, (zqk X N' scope G.objs.size s₂ H₂ fp).env.cells.lookup x = some c → c ≠ D := fun x c e z => by
    obtain ⟨v, q⟩ := I2.cell x c (zjc (fun d hd => by simp at hd) e)
    exact addr_lt q.lt (Nat.le_of_eq hD) z
  have stat : ∀ {H' : Hp} {pp : List (Addr × Obj)}, (∀ b ∈ fp, H' b = none) → (∀ p ∈ pp, p.1 = D) → ∀ b ∈ fp, FpOk (zqk X N' scope G.objs.size s₂ H₂ fp) pp H' b := fun {H' pp} hn hp b hb => by
    refine ⟨hn b hb, fun z => ?_, fun z => ?_, .inl hb, fun x c e => (hf2 b hb).1.2.2.2.2.1 x c (zjc (fun d hd => by simp at hd) e), fun p hp' z => ?_⟩
    · exact addr_lt (lt2 b hb) hCle z
    · rcases List.mem_cons.mp (I2.stkSub b z) with e | e
      · exact (hf2 b hb).1.2.1 e
      · exact (hf2 b hb).1.2.2.1 e
    · have e1 : p.1 = D := hp p (by simpa [zqk] using hp')
      exact addr_lt (lt2 b hb) (Nat.le_refl _) (z.symm.trans e1)
  have pinD : ∀ {σ' : St} {H' : Hp} {s' : Shared} {ys : List Value} {c : Nat}, Inv (zqk X N' scope G.objs.size s₂ H₂ fp) [] σ' H' s' → s'.heap.get? D = some { cls := .type "list", data := .seq ys.toArray c } → H' D = none →
      Inv (zqk X N' scope G.objs.size s₂ H₂ fp) [(D, { cls := .type "list", data := .seq ys.toArray c })] σ' H' s' := fun {σ' H' s' ys c} J e n => J.pins_of fun p hp => by
    have e1 := List.mem_singleton.mp hp
    subst e1
    exact ⟨e, n, hDC, hDfs, fun v z => by cases z⟩
  have loop : ∀ s₃ : Shared, (∃ tk, s₃ = { s₂ with heap := h₁, toks := tk }) → codeAny (model X.prog X.w) X.A (.compLoop (.ListComp elt [⟨tg, iter, ifs, 0⟩] scope pos) 0 (.ref it) (.ref D) (zqk X N' scope G.objs.size s₂ H₂ fp).env)
      (compPost (model X.prog X.w) X.A X.xe use Q' (.ref D) G.objs.size) s₃ := by
    rintro s₃ ⟨tk, rfl⟩
    refine comp_turns (fun n s' => ∃ i σ' H' xs ys c, Inv (zqk X N' scope G.objs.size s₂ H₂ fp) [] σ' H' s' ∧ tn i s'.heap ∧ (∀ b ∈ fp, H' b = none) ∧ H' D = none ∧ s'.heap.get? D = some { cls := .type "list", data := .seq ys.toArray c } ∧ Vals xs ys ∧ W i n σ' H' xs)
      ?_ m0 ⟨0, _, H₂, [], [], 0, I0 tk, T.keep _ _ _ st2 fun b hb o e => old b o e, fun b hb => (f2 b hb).1, I2.hok.fresh (by lia), hacc, .nil, w0⟩
    rintro n s' ⟨i, σ', H', xs, ys, c, J', st', fr', nD, eD, rv, w'⟩
    have J1 := pinD J' eD nD
    rcases turn i n σ' H' xs w' with ⟨stop, hz, fin⟩ | ⟨go, hz, step⟩
    · refine thn (T.done (zqk X N' scope G.objs.size s₂ H₂ fp) rfl rfl rfl hc i _ s' σ' H' _ J1 (stat fr' fun p hp => by rw [List.mem_singleton.mp hp]) st' stop) fun r s4 ⟨hr, J4⟩ => ?_
      subst hr
      obtain ⟨nD4, eD4⟩ := hDnone (pp := []) J4
      obtain ⟨mC, hnC, _⟩ := J4.loc
      refine hend D G.objs.size s4 mC hnC (by have := I2.sz; lia) (fun z => addr_lt (Nat.lt_of_lt_of_le I2.lt (by lia)) (Nat.le_refl G.objs.size) z.symm) (fun x c e z => ?_) (fun p hp z => ?_) fun h' hs' => ?_
      · obtain ⟨v, q⟩ := I2.cell x c e
        exact addr_lt (Nat.lt_of_lt_of_le q.lt (by lia)) (Nat.le_refl G.objs.size) z
      · exact addr_lt (Nat.lt_of_lt_of_le (Heap.lt_size (I2.pin p hp).1) (by lia)) (Nat.le_refl G.objs.size) z
      have keep4 : ∀ b o, b ≠ G.objs.size → s4.heap.get? b = some o → h'.get? b = some o := fun b o hb e => hs'.extBut b o hb e
      have hC4 : H' G.objs.size = none := J4.free
      have hun : Un (frs X.stack) fp H₂ (upd H' D (.lst xs)) s₂.heap h' := by
        have u := J4.base
        have neD : ∀ b o, s₂.heap.get? b = some o → b ≠ D := fun b o e => addr_ne e (Nat.le_of_eq hD)
        have neC : ∀ b o, s₂.heap.get? b = some o → b ≠ G.objs.size := fun b o e => addr_ne e (by rw [hD]; exact hCle)
        have neD' : ∀ b o, H₂ b = some o → b ≠ D := fun b o e => addr_lt (I2.hok.lt e) (Nat.le_of_eq hD)
        refine ⟨fun b o e n hb hx => keep4 b o (neC b o e) (u.keep b o e n hb hx), fun b o e n hb hx => ?_, fun b o e n hx => by rw [zqq (neD b o e)]; exact u.free b o e n hx, fun b o e hx => ?_,
          fun b xs e => by rw [zqq (neD' b _ e)]; exact u.tups b xs e, fun b o z e => by rw [zqq (neD' b _ e)]; exact u.frzs b o z e, fun b ps e => by rw [zqq (neD' b _ e)]; exact u.tbls b ps e⟩
        · obtain ⟨sl, q⟩ := u.slot b o e n hb hx
          exact ⟨sl, keep4 b _ (neC b o e) q⟩
        · obtain ⟨o', q⟩ := u.there b o e hx
          exact ⟨o', keep4 b _ (neC b o e) q⟩
      have hok4 : HOk X.prog X.w (upd H' D (.lst xs)) h' := by
        intro b u e
        by_cases hb : b = D
        · subst hb
          rw [zjj] at e
          cases e
          exact ⟨hz, ys, c, rv, keep4 _ _ hDC eD4⟩
        · rw [zqq hb] at e
          have hnD : ∀ a o, H' a = some o → a ≠ D := fun a o e z => by rw [z, nD4] at e; cases e
          refine (J4.hok b u e).stay (fun a v ha q => keep4 a v ?_ q) (fun a q => by rw [zqq (hnD a _ q)]; exact q) fun a zs q => by rw [zqq (hnD a _ q)]; exact q
          rintro rfl
          rcases ha with z | z
          · rw [← z, hC4] at e; cases e
          · rw [hC4] at z; cases z
      refine ⟨upd H' D (.lst xs), I2.call' (s' := { s4 with heap := h' }) J4.os hun hok4 J4.bare (fun b hb => ?_), by rw [zqq (Ne.symm hDC)]; exact hC4, fin D nD4⟩
      exact ⟨(f2 b hb).2.2.2.1, (f2 b hb).2.1, (f2 b hb).2.2.2.2.1, (f2 b hb).2.2.2.2.2⟩
    · refine thn (T.item (zqk X N' scope G.objs.size s₂ H₂ fp) rfl rfl rfl hc i _ s' σ' H' NoX J1 (stat fr' fun p hp => by rw [List.mem_singleton.mp hp]) st' go) fun r s4 ⟨u, hr, h4⟩ => ?_
      subst hr
      refine thn h4 fun _ s5 ⟨x, H5, I5, r5, y5, st5, fr5⟩ => ?_
      have I5' := I5.pinned (stat fr5 fun p hp => by rw [List.mem_singleton.mp hp]) (T.obj _ _ st5)
      refine thn (hg _ _ _ _ _ s5 σ' H5 x u _ I5' r5 (step x H5 y5)) fun _ s6 ⟨σ6, H6, I6, q6⟩ => ?_
      refine thn (hf _ _ _ _ _ s6 σ6 H6 _ I6 q6) fun ok s7 ⟨H7, I7, q7⟩ => ?_
      have back : ∀ {σ8 : St} {H8 : Hp} {s8 : Shared}, Inv (zqk X N' scope G.objs.size s₂ H₂ fp) ([(D, { cls := .type "list", data := .seq ys.toArray c })] ++ pinsAt fp s5.heap) σ8 H8 s8 →
          Inv (zqk X N' scope G.objs.size s₂ H₂ fp) [] σ8 H8 s8 ∧ tn (i + 1) s8.heap ∧ (∀ b ∈ fp, H8 b = none) ∧ H8 D = none ∧ s8.heap.get? D = some { cls := .type "list", data := .seq ys.toArray c } := fun {σ8 H8 s8} J => by
        have pd := J.pin (D, { cls := .type "list", data := .seq ys.toArray c }) (List.mem_append_right _ (List.mem_append_left _ (List.mem_singleton.mpr rfl)))
        have pf : ∀ b ∈ fp, ∀ o, s5.heap.get? b = some o → s8.heap.get? b = some o ∧ H8 b = none := fun b hb o e => by
          have q := J.pin (b, o) (List.mem_append_right _ (List.mem_append_right _ (mem_pinsAt hb e)))
          exact ⟨q.1, q.2.1⟩
        refine ⟨J.pins_of fun p hp => absurd hp (by simp), T.keep _ _ _ st5 fun b hb o e => (pf b hb o e).1, fun b hb => ?_, pd.2.1, pd.1⟩
        obtain ⟨o, e, _⟩ := T.obj _ _ st5 b hb
        exact (pf b hb o e).2
      cases ok with
      | false =>
        simp only [Bool.false_eq_true, if_false] at q7 ⊢
        obtain ⟨m', hm, w7⟩ := q7
        obtain ⟨b1, b2, b3, b4, b5⟩ := back I7
        exact ⟨m', hm, i + 1, σ6, H7, xs, ys, c, b1, b2, b3, b4, b5, rv, w7⟩
      | true =>
        simp only [if_true] at q7 ⊢
        refine thn (he _ _ _ _ _ s7 σ6 H7 _ I7 q7) fun u8 s8 ⟨v8, H8, I8, r8, q8⟩ => ?_
        obtain ⟨m', hm, w8⟩ := q8
        obtain ⟨b1, b2, b3, b4, b5⟩ := back I8
        refine append_at b5 (fun h9 hs9 e9 => ?_) (by rw [List.size_toArray, ← rv.length]; exact Nat.le_of_lt hz)
        have I9 : Inv (zqk X N' scope G.objs.size s₂ H₂ fp) [] σ6 H8 { s8 with heap := h9 } := b1.turned (t' := s8.toks) (it := D) (fun b o hb e => (hs9.2 b hb).trans e) b4 hDC (.inr (by show s₂.heap.objs.size ≤ D; lia)) hDcell fun p hp => absurd (show p ∈ ([] : List (Addr × Obj)) from hp) (by simp)
        refine ⟨m', hm, i + 1, σ6, H8, xs ++ [v8], ys ++ [u8], c + 1, I9, T.keep _ _ _ b2 fun b hb o e => (hs9.2 b ?_).trans e, b3, b4, ?_, Vals.append rv (.cons r8 .nil), w8⟩
        · exact addr_lt (lt2 b hb) (Nat.le_refl _)
        · rw [e9, List.push_toArray]
  exact codeAny_compStart_list (loop _ ⟨_, rfl⟩) (T.self _ 0 _ _ _ (T.keep _ _ _ st2 fun b hb o e => old b o e) (loop _ ⟨_, rfl⟩))
theorem ps_setC {i : Nat} {y : Str} {py spos : Pos} (S : CompFit X k js N' scope) (hc : X.calm = true) (hN : X.N.Nodup) (hi : X.N[i]? = some y) (hx : X.env.scope.names.lookup y = some .local) (hit : PI X tg iter wi)
    (hg : ∀ C s₂ H₂ fp, PG (zqk X N' scope C s₂ H₂ fp) tg g) (hf : ∀ C s₂ H₂ fp, PF (zqk X N' scope C s₂ H₂ fp) ifs tc) (he : ∀ C s₂ H₂ fp, PE (zqk X N' scope C s₂ H₂ fp) elt te)
    (hsw : swapsWith (.ListComp elt [⟨tg, iter, ifs, 0⟩] scope pos) (some (.Name y py)) spos.line X.env = pure true) (hs : ∀ x, foldedSetIterable iter X.env x = pure x) :
    PS X (.Assign [.Name y py] (.ListComp elt [⟨tg, iter, ifs, 0⟩] scope pos) spos) (tAsg (tComp wi k js g tc te) (gName i)) := by
  intro pins s σ H D I h
  rw [exec_Assign_Name_used _ _ _ _ hsw]
  refine wpAny_bind (wpAny_standAt (wpAny_bind ?_))
  show wpAny _ X.A (do let _ ← comprehension (.ListComp elt [⟨tg, iter, ifs, 0⟩] scope pos) scope X.env _ (newList []) false (eval iter X.env) (some (assign (.Name y py) X.env))) _ _ s
  refine wpAny_bind (wpAny_mono (comp_use (use := some (assign (.Name y py) X.env)) (Q' := fun _ s' => SP X pins D .next s') S hc hit hg hf he I h (fun Dd C s4 m hn h0 h1 h2 h3 hfin => ?_) hs) (fun _ s' hq => wpAny_pure (wpAny_pure hq)) fun _ _ e => e)
  obtain ⟨H5, I5, n5, q5⟩ := hfin s4.heap (Heap.SameBut.refl _ _)
  show wpAny _ X.A (assign (.Name y py) X.env (.ref Dd)) _ X.xe s4
  refine wpAny_assign_Name (store_ok2 (v := .ref Dd) I5 hN hi (.inl hx) rfl (fun s5 I6 ⟨a, hsb, ha⟩ => ?_) (.inr hx))
  have haC : C ≠ a := fun z => by
    rcases ha with e | e
    · exact h1 (z.trans e)
    · exact h2 y a e z.symm
  refine ⟨m, hn.sameBut hsb haC, fun h' hs' => ⟨σ.set i (some (.ref Dd)), H5, ?_, q5⟩⟩
  exact I6.turned (t' := s5.toks) (it := C) (fun b o hb e => (hs'.2 b hb).trans e) n5 h1 (.inr h0) h2 h3
end
end L2
set_option Elab.async false
set_option linter.all false
set_option maxRecDepth 100000
set_option maxHeartbeats 4000000
set_option autoImplicit false
namespace L3
open PySem PySem.Spec L2
open PyProof.Rows hiding St
section
variable {X : Cx} {E : XK} {k : Nat} {js : List Nat} {N' : List Str} {scope : Scope} {elt tg iter : Expr} {ifs : List Expr} {pos py spos : Pos} {y : Str} {i : Nat} {fi : DS → M (List D)} {g : TG} {sf : D → DS → Option DS} {gc : DS → M Bool} {fe : DS → M DV}
theorem st_setC (S : CompFit X k js N' scope) (hj : js.Nodup) (hc : X.calm = true) (hN : X.N.Nodup) (hit : PIx X E tg iter fi) (ht : TgV g sf) (hsub : ∀ δ d δ1, sf d (subD k js δ) = some δ1 → Sub (subD k js δ) δ1)
    (hg : ∀ C s₂ H₂ fp, PG (zqk X N' scope C s₂ H₂ fp) tg g) (hf : ∀ C s₂ H₂ fp, PF (zqk X N' scope C s₂ H₂ fp) ifs (tBo E0 gc)) (he : ∀ C s₂ H₂ fp, PX (zqk X N' scope C s₂ H₂ fp) E0 elt fe)
    (hi : X.N[i]? = some y := by rfl) (hx : X.env.scope.names.lookup y = some .local := by rfl) (hsw : swapsWith (.ListComp elt [⟨tg, iter, ifs, 0⟩] scope pos) (some (.Name y py)) spos.line X.env = pure true := by rfl)
    (hs : ∀ x, foldedSetIterable iter X.env x = pure x := by intro _; rfl) : PSt X E (.Assign [.Name y py] (.ListComp elt [⟨tg, iter, ifs, 0⟩] scope pos) spos) (fSet i (eComp k js fi sf gc fe)) :=
  PS.mono (ps_setC S hc hN hi hx hit hg hf he hsw hs) fun T σ H q => comp_read hj ht hsub (by
    obtain ⟨O, P, δ, r, rs, e, q⟩ := q
    rcases zze e with ⟨x, e1, e2⟩ | ⟨cx, e1, e2⟩
    · obtain ⟨z, e3, e4⟩ := bd_op e2
      cases e4
      refine ⟨O, P, δ, .ok x, rs, e1, fun v H1 s1 rx => ?_⟩
      obtain ⟨P', kp, rs'⟩ := rs.asg s1 rx e3 i
      exact q _ H1 P' kp rs'
    · subst e2
      exact ⟨O, P, δ, .error cx, rs, e1, fun dx H' s => q dx H' P (.same s)⟩)
end
section
variable {X : Cx} {E : XK}
theorem cat_tup0 {prog : Program} {w : World} {A : Around} {E : Value → Shared → Prop} {s : Shared} {t b : Addr} {ws : List Value} {Q : Value → Shared → Prop} (ht : IsTup s.heap t #[]) (hb : IsTup s.heap b ws.toArray) (h : Q (.ref b) s) : wpAny (model prog w) A (binaryOp .Add (.ref t) (.ref b)) Q E s := by
  obtain ⟨⟨c1, d1, a1, l1⟩, o1, q1, n1, z1⟩ := id ht
  obtain ⟨⟨c2, d2, a2, l2⟩, o2, q2, n2, z2⟩ := id hb
  simp only at q1 z1 q2 z2
  subst q1 z1 q2 z2
  exact concat_meets ⟨_, o1, rfl⟩ ⟨_, o2, rfl⟩ noFill_tuple_add seq_tuple_add PySem.F.slot_tuple_add PySem.F.entry_tuple_add (PySem.F.args_tuple_add_2 _ _) (tuple_addW0 t b #[] ws.toArray n1 n2 d1 d2 l1 l2 rfl) ⟨o1, o2, h⟩
noncomputable def gCatT (x y : DV) : M DV := match x, y with
  | .d (.tuple xs), .d (.tuple ys) => if xs.length + ys.length ≤ 1000000 then rt (.d (.tuple (xs ++ ys))) else none
  | _, _ => none
theorem ov_catT : OpV X E (binaryOp .Add) gCatT := fun pins s σ O P H₀ H x y v u vv uu r Q I hd hs rx ry ev eu e q => by
  unfold gCatT at e
  split at e
  · rename_i xs ys
    split at e
    · rename_i hz
      cases e
      have rx' : Rp (P ++ O) H (.tuple xs) v := rx
      have ry' : Rp (P ++ O) H (.tuple ys) u := ry
      cases rx' with
      | @tup a _ vs za ha la =>
        cases ry' with
        | @tup b _ us zb hb lb =>
          cases xs with
          | nil =>
            cases la
            cases ev
            cases eu
            obtain ⟨i1, r1, p1, _⟩ := I.tuple (SqT.of ha)
            obtain ⟨i2, r2, p2, _⟩ := I.tuple (SqT.of hb)
            cases r1
            exact cat_tup0 p1 p2 ⟨.ref b, H, I, rfl, q _ H (Same.refl H) (.tup zb hb lb)⟩
          | cons x0 xr =>
            refine op_catT pins s σ H (.ref a) (.ref b) vv uu Q I ev eu ⟨a, b, vs, us, rfl, rfl, SqT.of ha, SqT.of hb, fun z => ?_, zjv (by rw [← la.length, ← lb.length]; exact hz), fun z => ?_, fun z p hp => ?_⟩
            · subst z; cases la
            · subst z
              cases lb
              rw [List.append_nil] at q
              exact q _ H (Same.refl H) (.tup za ha la)
            · exact q _ _ (same_upd hp) (madeT hd hs hp (la.append lb))
    · cases e
  · cases e
noncomputable def gPlus3 := gOr gPlus gCatT
theorem ov_plus3 : OpV X E (binaryOp .Add) gPlus3 := ov_plus.or ov_catT
noncomputable def fExt (i : Nat) (f : DS → M DV) (δ : DS) : M Out := match δ[i]? with
  | some (some (.own xs)) => bd (f δ) fun x => match x with
    | .new ys => if xs.length + ys.length ≤ 1000000 then rt (.nx (δ.set i (some (.own (xs ++ ys))))) else none
    | .d (.list ys) => if xs.length + ys.length ≤ 1000000 then rt (.nx (δ.set i (some (.own (xs ++ ys))))) else none
    | _ => none
  | _ => none
variable {e o : Expr} {pos apos cpos : Pos} {f : DS → M DV} {i : Nat}
theorem st_ext (ho : PE X o (tVar i)) (he : PX X E e f)
    (hbase : attributeBase o "extend" X.env (eval o X.env) = eval o X.env := by rfl)
    (hfew : ((backTo cpos (starEach [e] X.env)).all (fun x => !x.1) && (backToKw cpos (keywordEach [] X.env)).all (fun x => x.1.isSome)
      && decide ([e].length + ([] : List Keyword).length + (if ([] : List Keyword).isEmpty then 0 else 1) < 30)) = true := by rfl)
    (hline : (apos.endLine == cpos.line) = true := by rfl) (hs : starEach [e] X.env = (false, eval e X.env) :: starEach [] X.env := by rfl) (hplain : (backTo cpos (starEach [] X.env)).any (·.1) = false := by rfl)
    (hsw : swapsWith (.Call (.Attribute o "extend" apos) [e] [] cpos) none pos.line X.env = pure false := by rfl) : PSt X E (.Expr (.Call (.Attribute o "extend" apos) [e] [] cpos) pos) (fExt i f) :=
  PS.mono (ps_expr (pe_bm PySem.F.plainAttrs_list PySem.F.slot_list_extend PySem.F.type_list_extend mt_extend ho (pa_cons he pa_nil hs) hbase hfew hline hs hplain) hsw) fun T σ H q => by
    obtain ⟨O, P, δ, r, rs, e, q⟩ := q
    unfold fExt at e
    split at e
    · rename_i xs ei
      obtain ⟨v, ev, _, a, vs, rfl, hP, ha, l⟩ := rs.at' i _ ei
      refine ⟨.ref a, ev, .inl ⟨rfl, _, SqL.of ha⟩, ?_⟩
      rcases zze e with ⟨x, e1, e2⟩ | ⟨cx, e1, e2⟩
      · refine ⟨O, P, δ, .ok x, rs, e1, fun u H1 s1 rx => ?_⟩
        have fin : ∀ ys b us, u = .ref b → H1 b = some (.lst us) → RpL (P ++ O) H1 ys us → xs.length + ys.length ≤ 1000000 → r = .ok (.nx (δ.set i (some (.own (xs ++ ys))))) → rExtend (.ref a) [u] H1 fun _ H2 => T.nx σ H2 := fun ys b us eu hb lb hz er => by
          subst eu er
          have l1 := (l.kp (.same s1)).append lb
          obtain ⟨kp, rs'⟩ := (rs.same s1).grow ei ev l1 hP
          exact ⟨a, b, vs, us, rfl, rfl, s1 a _ ha, hb, zjv (by rw [← l.length, ← lb.length]; exact hz), q σ _ P ((Kp.same s1).trans kp) rs'⟩
        split at e2
        · rename_i ys
          split at e2
          · rename_i hz
            cases e2
            obtain ⟨b, us, eu, hb, lb⟩ := rx.list (xs := ys) rfl
            exact fin ys b us eu hb lb hz rfl
          · cases e2
        · rename_i ys
          split at e2
          · rename_i hz
            cases e2
            obtain ⟨b, us, eu, hb, lb⟩ := rx.list (xs := ys) rfl
            exact fin ys b us eu hb lb hz rfl
          · cases e2
        · cases e2
      · subst e2
        exact ⟨O, P, δ, .error cx, rs, e1, fun dx H' s => q dx H' P (.same s)⟩
    · cases e
noncomputable def isD : DV → D → Bool
  | .d .none, .none => true
  | .d (.bool a), .bool b => a == b
  | _, _ => false
noncomputable def gIs (neg : Bool) (x y : DV) : M DV := match y with
  | .d .none => match x with
    | .scr _ _ => none
    | _ => rt (.d (.bool (if neg = true then !isD x .none else isD x .none)))
  | .d (.bool b) => match x with
    | .scr _ _ => none
    | _ => rt (.d (.bool (if neg = true then !isD x (.bool b) else isD x (.bool b))))
  | _ => none
theorem is_bl {M : Model} {A : Around} {E : Value → Shared → Prop} {s : Shared} {Q : Value → Shared → Prop} {v : Value} {b : Bool} (hv : ∀ i, v ≠ .builtin i) (h : Q (.bool (v == .bool b)) s) : wpAny M A (compareOp .Is v (.bool b)) Q E s := by
  cases v <;> first | exact wpAny_pure h | exact absurd rfl (hv _)
theorem isnot_bl {M : Model} {A : Around} {E : Value → Shared → Prop} {s : Shared} {Q : Value → Shared → Prop} {v : Value} {b : Bool} (hv : ∀ i, v ≠ .builtin i) (h : Q (.bool (!(v == .bool b))) s) : wpAny M A (compareOp .IsNot v (.bool b)) Q E s := by
  cases v <;> first | exact wpAny_pure h | exact absurd rfl (hv _)
theorem isD_none {O P : List Addr} {H₀ H : Hp} {x : DV} {v : V} {vv : Value} (r : RE O P H₀ H x v) (e : RelV v vv) : (vv == Value.none) = isD x .none := by
  cases x with
  | d z =>
    have r' : Rp (P ++ O) H z v := r
    cases r' with
    | none => cases e; rfl
    | bool b => cases e; rfl
    | int i => obtain ⟨t, rfl⟩ := e; rfl
    | str x _ => obtain ⟨t, rfl⟩ := e; rfl
    | tup _ _ _ => cases e; rfl
    | lst _ _ _ => cases e; rfl
  | ob C fs => obtain ⟨a, dx, gs, rfl, _⟩ := r; cases e; rfl
  | tbl kvs => obtain ⟨a, kv, rfl, _⟩ := r; cases e; rfl
  | ex q => obtain rfl := (show _ = _ from r); cases e; rfl
  | tpo p xs q => obtain ⟨t, a, ps, vs, qs, rfl, _⟩ := r; cases e; rfl
  | nwt p xs q => obtain ⟨t, a, ps, vs, qs, rfl, _⟩ := r; cases e; rfl
  | own xs => obtain ⟨a, vs, rfl, _⟩ := r; cases e; rfl
  | new xs => obtain ⟨a, vs, rfl, _⟩ := r; cases e; rfl
  | scr K ns => obtain ⟨a, rfl, _⟩ := r; cases e; rfl
theorem isD_bool {O P : List Addr} {H₀ H : Hp} {x : DV} {v : V} {vv : Value} (b : Bool) (r : RE O P H₀ H x v) (e : RelV v vv) : (vv == Value.bool b) = isD x (.bool b) := by
  cases x with
  | d z =>
    have r' : Rp (P ++ O) H z v := r
    cases r' with
    | none => cases e; rfl
    | bool c => cases e; cases b <;> cases c <;> rfl
    | int i => obtain ⟨t, rfl⟩ := e; rfl
    | str x _ => obtain ⟨t, rfl⟩ := e; rfl
    | tup _ _ _ => cases e; rfl
    | lst _ _ _ => cases e; rfl
  | ob C fs => obtain ⟨a, dx, gs, rfl, _⟩ := r; cases e; rfl
  | tbl kvs => obtain ⟨a, kv, rfl, _⟩ := r; cases e; rfl
  | ex q => obtain rfl := (show _ = _ from r); cases e; rfl
  | tpo p xs q => obtain ⟨t, a, ps, vs, qs, rfl, _⟩ := r; cases e; rfl
  | nwt p xs q => obtain ⟨t, a, ps, vs, qs, rfl, _⟩ := r; cases e; rfl
  | own xs => obtain ⟨a, vs, rfl, _⟩ := r; cases e; rfl
  | new xs => obtain ⟨a, vs, rfl, _⟩ := r; cases e; rfl
  | scr K ns => obtain ⟨a, rfl, _⟩ := r; cases e; rfl
theorem not_blt {O P : List Addr} {H₀ H : Hp} {x : DV} {v : V} {vv : Value} (r : RE O P H₀ H x v) (e : RelV v vv) : ∀ i, vv ≠ .builtin i := by
  intro i z
  subst z
  cases x with
  | d z =>
    have r' : Rp (P ++ O) H z v := r
    cases r' with
    | none => cases e
    | bool c => cases e
    | int i => obtain ⟨t, z⟩ := e; cases z
    | str x _ => obtain ⟨t, z⟩ := e; cases z
    | tup _ _ _ => cases e
    | lst _ _ _ => cases e
  | ob C fs => obtain ⟨a, dx, gs, rfl, _⟩ := r; cases e
  | tbl kvs => obtain ⟨a, kv, rfl, _⟩ := r; cases e
  | ex q => obtain rfl := (show _ = _ from r); cases e
  | tpo p xs q => obtain ⟨t, a, ps, vs, qs, rfl, _⟩ := r; cases e
  | nwt p xs q => obtain ⟨t, a, ps, vs, qs, rfl, _⟩ := r; cases e
  | own xs => obtain ⟨a, vs, rfl, _⟩ := r; cases e
  | new xs => obtain ⟨a, vs, rfl, _⟩ := r; cases e
  | scr K ns => obtain ⟨a, rfl, _⟩ := r; cases e
theorem ov_is : OpV X E (compareOp .Is) (gIs false) := fun pins s σ O P H₀ H x y v u vv uu r Q I hd hs rx ry ev eu e q => by
  unfold gIs at e
  split at e
  · have ry' : Rp (P ++ O) H .none u := ry
    cases ry'
    cases eu
    refine is_none_gen ?_
    rw [isD_none rx ev]
    cases x <;> cases e <;> exact ⟨.bl _, H, I, rfl, q _ H (Same.refl H) (.bool _)⟩
  · rename_i b
    have ry' : Rp (P ++ O) H (.bool b) u := ry
    cases ry'
    cases eu
    refine is_bl (not_blt rx ev) ?_
    rw [isD_bool b rx ev]
    cases x <;> cases e <;> exact ⟨.bl _, H, I, rfl, q _ H (Same.refl H) (.bool _)⟩
  · cases e
theorem ov_isnot : OpV X E (compareOp .IsNot) (gIs true) := fun pins s σ O P H₀ H x y v u vv uu r Q I hd hs rx ry ev eu e q => by
  unfold gIs at e
  split at e
  · have ry' : Rp (P ++ O) H .none u := ry
    cases ry'
    cases eu
    refine isnot_none_gen ?_
    rw [isD_none rx ev]
    cases x <;> cases e <;> exact ⟨.bl _, H, I, rfl, q _ H (Same.refl H) (.bool _)⟩
  · rename_i b
    have ry' : Rp (P ++ O) H (.bool b) u := ry
    cases ry'
    cases eu
    refine isnot_bl (not_blt rx ev) ?_
    rw [isD_bool b rx ev]
    cases x <;> cases e <;> exact ⟨.bl _, H, I, rfl, q _ H (Same.refl H) (.bool _)⟩
  · cases e
end
end L3
set_option Elab.async false
set_option linter.all false
set_option maxRecDepth 100000
set_option maxHeartbeats 4000000
set_option autoImplicit false
namespace L3
open PySem PySem.Spec L2
open PyProof.Rows hiding St
theorem entry_dict_loop : entryFor table "dict.update.loop" = some Builtin.«dict.update.loop» := entryFor_of_tree (by kernel_rfl)
theorem plain_dict_loop : plainId "dict.update.loop" = true := by decide +kernel
section
variable {prog : Program} {w : World} {A : Around} {R : Result → Shared → Prop} {I d : Addr} {fp wr : List Addr} {n : Nat} {P : Nat → Value → Prop} {St : Nat → Heap → Prop} {κ : Type} [DecidableEq κ] {knd : KeyKind prog w κ}
theorem stored_new {kvs : List (κ × Value)} {k : κ} {v : Value} (h : ∀ p ∈ kvs, p.1 ≠ k) : stored kvs k v = kvs ++ [(k, v)] := by
  unfold stored
  rw [if_neg]
  intro z
  rw [List.any_eq_true] at z
  obtain ⟨p, hp, e⟩ := z
  exact h p hp (of_decide_eq_true e)
structure PairAt (knd : KeyKind prog w κ) (wr : List Addr) (d : Addr) (h : Heap) (v : Value) (kv : κ × Value) : Prop where
  ex : ∃ t key, v = .ref t ∧ t ∉ wr ∧ t ≠ d ∧ h.IsTuple t #[key, kv.2] ∧ knd.is kv.1 key = true
theorem codeAny_dict_loop (W : Walks prog w A.in1 I fp wr n P St) (kvs : List (κ × Value)) (hn : kvs.length = n) (hz : n ≤ sizeLine) (hnd : (kvs.map (·.1)).Nodup) (h0 : Heap) (hdf : d ∉ fp)
    (hP : ∀ i v, P i v → ∀ kv, kvs[i]? = some kv → PairAt knd wr d h0 v kv) :
    ∀ (k i : Nat) (s : Shared), n - i = k → i ≤ n → St i s.heap → (∀ b o, b ∉ wr → b ≠ d → h0.get? b = some o → s.heap.get? b = some o) → s.heap.DictOf knd d (kvs.take i) →
    (∀ h' tk, h'.DictOf knd d kvs → (∀ b o, b ∉ wr → b ≠ d → s.heap.get? b = some o → h'.get? b = some o) → R (.ok (.ret .none)) { s with heap := h', toks := tk }) →
    codeAny (model prog w) A (.builtin "dict.update.loop" ⟨[.ref d, .ref I, rawInt i, .none], []⟩) R s := by
  have hdw : d ∉ wr := fun h => hdf (W.sub _ h)
  intro k
  induction k with
  | zero =>
    intro i s hk hi hst hkeep hd hR
    have hin : i = n := by lia
    subst hin
    rw [List.take_of_length_le (by lia)] at hd
    refine codeAny_builtin entry_dict_loop ?_
    rw [Around.under_plainId plain_dict_loop _]
    show wpAny _ A.in1 (pyNext (.ref I) >>= _) _ _ s
    refine wpAny_bind (W.done s _ _ hst fun h' tk hk' => ?_)
    show wpAny _ A.in1 (Builtin.Dict.addKeywords d [] >>= _) _ _ _
    refine wpAny_bind (wpAny_pure (wpAny_pure ?_))
    exact hR h' tk (let ⟨o, es, ep, ho, r⟩ := hd; ⟨o, es, ep, hk' _ _ hdw ho, r⟩) fun b o hbw _ e => hk' b o hbw e
  | succ k ih =>
    intro i s hk hi hst hkeep hd hR
    have hlt : i < n := by lia
    refine codeAny_builtin entry_dict_loop ?_
    rw [Around.under_plainId plain_dict_loop _]
    show wpAny _ A.in1 (pyNext (.ref I) >>= _) _ _ s
    refine wpAny_bind (W.item i s _ _ hlt hst fun v h' tk hPv hst' hk' => ?_)
    have hi' : i < kvs.length := by lia
    obtain ⟨t, key, rfl, htw, htd, htup, hkey⟩ := (hP i v hPv kvs[i] (List.getElem?_eq_getElem hi')).ex
    have htup' : h'.IsTuple t #[key, kvs[i].2] := by
      obtain ⟨o, ho, r⟩ := htup
      exact ⟨o, hk' _ _ htw (hkeep _ _ htw htd ho), r⟩
    obtain ⟨o, ho, hc, nn, hdat⟩ := id htup'
    have hd' : h'.DictOf knd d (kvs.take i) := let ⟨o, es, ep, ho, r⟩ := hd; ⟨o, es, ep, hk' _ _ hdw ho, r⟩
    refine wpAny_bind (wpAny_holding (wpAny_bind (wpAny_tryCatch ?_)))
    unfold Builtin.Dict.pairItems
    refine wpAny_bind (wpAny_typeOf (T := "tuple") ⟨o, ho, hc⟩ ?_)
    rw [if_pos (by decide)]
    refine wpAny_bind (wpAny_seqItems ho hdat (wpAny_pure ?_))
    show wpAny _ A.in1 (holding [key, kvs[i].2] (dictSet d key kvs[i].2)) _ _ _
    refine wpAny_holding (wpAny_dictSet_pairs hkey hd' (fun h2 hd2 hs2 => ?_) (by rw [List.length_take]; lia))
    have hst2 : stored (kvs.take i) kvs[i].1 kvs[i].2 = kvs.take (i + 1) := by
      rw [stored_new, List.take_succ, List.getElem?_eq_getElem hi']
      · rfl
      · intro p hp e
        have h1 : (kvs.map (·.1)).Nodup := hnd
        obtain ⟨j, hj, ej⟩ := List.mem_iff_getElem.mp hp
        rw [List.length_take] at hj
        have hji : j < i := by lia
        rw [List.getElem_take] at ej
        have hjl : j < kvs.length := by lia
        have := (List.pairwise_iff_getElem.mp h1) j i (by rw [List.length_map]; exact hjl) (by rw [List.length_map]; exact hi') hji
        apply this
        rw [List.getElem_map, List.getElem_map]
        rw [ej, e]
    rw [hst2] at hd2
    refine wpAny_pure ⟨plainId_quiet plain_dict_loop _, ?_⟩
    have ih' := ih (i + 1) { s with heap := h2, toks := tk + 1 } (by lia) hlt (W.frame _ _ _ hst' fun b hb o e => (hs2.2 b (fun z => hdf (by rw [← z]; exact hb))).trans e)
      (fun b o hbw hbd e => (hs2.2 b hbd).trans (hk' b o hbw (hkeep b o hbw hbd e))) hd2 fun h3 tk3 hd3 hk3 => hR h3 tk3 hd3 fun b o hbw hbd e => hk3 b o hbw hbd ((hs2.2 b hbd).trans (hk' b o hbw e))
    exact ih'
end
theorem list_no_keys : typeLookup (.type "list") "keys" = pure none := am_miss_of_fast (by decide +kernel)
theorem keys_miss {prog : Program} {w : World} {A : Around} {E : Value → Shared → Prop} {s : Shared} {a : Addr} {o : Obj} {xs : Array Value} {k : Nat} {Q : Option Value → Shared → Prop}
    (hx : s.heap.get? a = some o) (hc : o.cls = .type "list") (hdat : o.data = .seq xs k) (hd : o.dict = none) (hA : A.handled = none)
    (h : ∀ h' tk, (∀ b ob, s.heap.get? b = some ob → h'.get? b = some ob) → Q none { s with heap := h', toks := tk }) : wpAny (model prog w) A (getAttr? (.ref a) "keys") Q E s := by
  obtain ⟨c, dct, dat, sl⟩ := o
  simp only at hc hdat hd
  subst hc hdat hd
  obtain ⟨hp, g, d, tk, os⟩ := s
  have hT : ∀ tk', (⟨hp, g, d, tk', os⟩ : Shared).TypeIs (.ref a) "list" := fun _ => ⟨_, hx, rfl⟩
  have f1 := sub_AttributeError
  have f3 := PySem.F.slot_list_getattribute.lookup
  have f4 := PySem.F.slot_list_getattribute.bind (.ref a)
  have f5 := am_list_getattr_none
  unfold getAttr? getAttrBy? getAttrBy
  repeat (any_goals (first | assumption | exact hT _ | ((with_reducible show wpAny _ _ (call (Value.builtin "list.__getattribute__") _ _) _ _ _); refine call_meets PySem.F.slot_list_getattribute (hT _) am_entry_list_getattribute (PySem.F.args_list_getattribute_2 _ _) (meets_getattribute_miss_list a xs k sl "keys" _ list_no_keys (by decide +kernel)) ⟨hx, hA, fun h' tk' e hx' => ?_⟩) | wp_step))
  obtain ⟨t', u', he⟩ := hx'.there
  show wpAny _ _ (getattributeRaised _ _ _ _ _ _ _) _ _ _
  unfold getattributeRaised
  repeat (any_goals (first | assumption | wp_step))
  exact h _ _ hx'.keeps
section
variable {prog : Program} {w : World} {A : Around} {E : Value → Shared → Prop} {s : Shared} {κ : Type} [DecidableEq κ] {knd : KeyKind prog w κ}
theorem call_dict_pairs {l : Addr} {xs : List Value} {Q : Value → Shared → Prop} (hl : PlainL s.heap l xs.toArray) (hA : A.handled = none) (kvs : List (κ × Value)) (hn : kvs.length = xs.length) (hz : xs.length ≤ sizeLine) (hnd : (kvs.map (·.1)).Nodup)
    (hP : ∀ (i : Nat) (v : Value) (kv : κ × Value), xs[i]? = some v → kvs[i]? = some kv → ∃ t key, v = .ref t ∧ s.heap.IsTuple t #[key, kv.2] ∧ knd.is kv.1 key = true)
    (h : ∀ h' tk, h'.DictOf knd s.heap.objs.size kvs → (∀ b ob, s.heap.get? b = some ob → h'.get? b = some ob) → Q (.ref s.heap.objs.size) { s with heap := h', toks := tk }) :
    wpAny (model prog w) A (call (.type "dict") [.ref l]) Q E s := by
  obtain ⟨o, n, hx, hc, hdn, hdat⟩ := id hl
  refine callType_codes (Q₁ := fun obj s₁ => obj = .ref s.heap.objs.size ∧ s₁ = { s with heap := s.heap.push { cls := .type "dict", data := .dict #[] } }) PySem.F.kt_called_dict (PySem.F.kt_typeCall_dict_1 _) PySem.F.entry_dict_init (kt_code_dict_new _ ⟨rfl, rfl⟩) ?_
  rintro obj s₁ ⟨rfl, rfl⟩
  have hnew : (s.heap.push { cls := .type "dict", data := .dict #[] }).DictOf knd s.heap.objs.size [] := Heap.DictOf.new s.heap
  have hx' : (s.heap.push { cls := .type "dict", data := .dict #[] }).get? l = some o := Heap.get?_push_of_some _ hx
  refine ⟨hnew.typeIs, PySem.F.args_dict_init_2 _ _, ?_⟩
  unfold Builtin.«dict.__init__»
  refine wpAny_bind ?_
  unfold Builtin.Dict.selfAndRest
  refine wpAny_bind (wpAny_notOrdered_dict hnew.typeIs ?_)
  show wpAny _ _ (pure (s.heap.objs.size, [Value.ref l])) _ _ _
  refine wpAny_pure ?_
  show wpAny _ _ (Builtin.Dict.updateFrom "dict.__init__" s.heap.objs.size (.ref l) [] .none) _ _ _
  unfold Builtin.Dict.updateFrom
  refine wpAny_bind (wpAny_typeOf (T := "list") ⟨o, hx', hc⟩ ?_)
  rw [if_pos (by decide)]
  refine wpAny_bind (keys_miss hx' hc hdat hdn hA fun h1 tk1 hk1 => ?_)
  show wpAny _ _ (rule _ >>= _) _ _ _
  refine wpAny_bind (wpAny_rule ?_)
  have hl1 : h1.IsList l xs.toArray := ⟨o, hk1 _ _ hx', hc, n, hdat⟩
  refine wpAny_bind (wpAny_pyIter_list hl1 ?_)
  have hlt : l < h1.objs.size := Heap.lt_size (hk1 _ _ hx')
  have hd1 : s.heap.objs.size < h1.objs.size := by
    obtain ⟨o2, _, _, ho2, _⟩ := hnew
    exact Heap.lt_size (hk1 _ _ ho2)
  have hdl : s.heap.objs.size ≠ l := fun z => Nat.lt_irrefl _ (by have := Heap.lt_size hx; rw [← z] at this; exact this)
  refine wpAny_pure ⟨plainId_quiet plain_dict_loop _, ?_⟩
  refine codeAny_dict_loop (knd := knd) (fp := [h1.objs.size, l]) (wr := [h1.objs.size]) (n := xs.toArray.size) (Walks.list (A := A.in1.in1) hA _ l (Nat.ne_of_lt hlt) xs.toArray) kvs (by simpa using hn) (by simpa using hz) hnd s.heap ?_ ?_ xs.toArray.size 0 _ rfl (Nat.zero_le _) ⟨⟨_, Heap.get?_push_size _ rfl, rfl, rfl⟩, hl1.push _⟩ ?_ ?_ ?_
  · intro z
    rcases List.mem_cons.mp z with e | z
    · exact Nat.ne_of_lt hd1 e
    · exact hdl (List.mem_singleton.mp z)
  · intro i v hv kv hkv
    have hv' : xs[i]? = some v := by simpa using hv
    obtain ⟨t, key, rfl, ht, hkey⟩ := hP i v kv hv' hkv
    have htl : t < s.heap.objs.size := by obtain ⟨o3, h3, _⟩ := ht; exact Heap.lt_size h3
    refine ⟨t, key, rfl, fun z => ?_, Nat.ne_of_lt htl, ht, hkey⟩
    rw [List.mem_singleton.mp z] at htl
    exact Nat.lt_irrefl _ (Nat.lt_trans htl hd1)
  · intro b ob hbw hbd e
    exact Heap.get?_push_of_some _ (hk1 _ _ (Heap.get?_push_of_some _ e))
  · obtain ⟨o2, es, ep, ho2, r⟩ := hnew
    exact ⟨o2, es, ep, Heap.get?_push_of_some _ (hk1 _ _ ho2), r⟩
  · intro h' tk hd' hk'
    refine ⟨rfl, h h' tk hd' fun b ob e => hk' b ob (fun z => ?_) (Nat.ne_of_lt (Heap.lt_size e)) (Heap.get?_push_of_some _ (hk1 _ _ (Heap.get?_push_of_some _ e)))⟩
    have := Heap.lt_size e
    rw [List.mem_singleton.mp z] at this
    exact Nat.lt_irrefl _ (Nat.lt_trans this hd1)
end
end L3
set_option Elab.async false
set_option linter.all false
set_option maxRecDepth 100000
set_option maxHeartbeats 4000000
set_option autoImplicit false
namespace L3
open PySem PySem.Spec L2
open PyProof.Rows hiding St
section
variable {X : Cx} {E : XK} {pins : List (Addr × Obj)} {σ : St} {H : Hp} {s : Shared}
theorem big_of (I : Inv X pins σ H s) : sysModules < s.heap.objs.size := by
  have h : mainGlobals < s.heap.objs.size := (I.mod.glob.keeps I.bk).lt
  exact Nat.lt_trans (by decide) h
noncomputable def pair? : D → Option (Str × D)
  | .tuple [.str k, v] => some (k, v)
  | _ => none
noncomputable def pairD (p : Str × D) : D := .tuple [.str p.1, p.2]
noncomputable def pairsD : List D → Option (List (Str × D))
  | [] => some []
  | x :: r => match pair? x, pairsD r with
    | some p, some ps => some (p :: ps)
    | _, _ => none
theorem pair?_get {x : D} {p : Str × D} (h : pair? x = some p) : x = pairD p := by
  unfold pair? at h
  split at h
  · cases h; rfl
  · cases h
theorem pairsD_get : ∀ {xs : List D} {kvs : List (Str × D)}, pairsD xs = some kvs → xs = kvs.map pairD
  | [], kvs, h => by cases h; rfl
  | x :: r, kvs, h => by
    rw [pairsD] at h
    cases e1 : pair? x with
    | none => rw [e1] at h; cases h
    | some p =>
      cases e : pairsD r with
      | none => rw [e1, e] at h; cases h
      | some cs => rw [e1, e] at h; cases h; rw [pairsD_get e, pair?_get e1]; rfl
theorem pairsD_map : ∀ kvs : List (Str × D), pairsD (kvs.map pairD) = some kvs
  | [] => rfl
  | p :: r => by
    rw [List.map_cons, pairsD, pairsD_map r]
    rfl
theorem bt_dict : bootBuiltins "dict" = some (.type "dict") := by decide +kernel
noncomputable def gDict (xs : List DV) : M DV := match xs with
  | [x] => bd (op (asL x)) fun ys => bd (op (pairsD ys)) fun kvs => if (kvs.map (·.1)).Nodup then rt (.tbl kvs) else none
  | _ => none
theorem pairs_vals (I : Inv X pins σ H s) {Z : List Addr} : ∀ {kvs : List (Str × D)} {ws : List V} {us : List Value}, RpL Z H (kvs.map pairD) ws → Vals ws us →
    ∃ (kv : List (Key × V)) (cs : List (Key × Value)), KvR Z H kvs kv ∧ KV kv cs ∧ cs.length = us.length ∧ cs.map (·.1) = kvs.map (fun p => (Sum.inr p.1 : Key)) ∧
      ∀ (i : Nat) (v : Value) (c : Key × Value), us[i]? = some v → cs[i]? = some c → ∃ t key, v = .ref t ∧ s.heap.IsTuple t #[key, c.2] ∧ (mixKind X.prog X.w).is c.1 key = true
  | [], _, _, .nil, .nil => ⟨[], [], .nil, .nil, rfl, rfl, fun i v c h => by simp at h⟩
  | p :: r, _, _, .cons r0 l, .cons q t => by
    have r0' : Rp Z H (.tuple [.str p.1, p.2]) _ := r0
    cases r0' with
    | tup hz ha lt =>
      cases lt with
      | cons r1 l1 =>
        cases l1 with
        | cons r2 l2 =>
          cases l2
          cases r1
          cases q
          obtain ⟨kv, cs, h1, h2, h3, h4, h5⟩ := pairs_vals I l t
          obtain ⟨its, ri, ⟨o, ho, hc, n, hd⟩, _⟩ := I.tuple (SqT.of ha)
          cases ri with
          | cons q1 qr =>
            cases qr with
            | cons q2 qr =>
              cases qr
              obtain ⟨tk, rfl⟩ := q1
              refine ⟨(Sum.inr p.1, _) :: kv, (Sum.inr p.1, _) :: cs, .cons ⟨rfl, r2⟩ h1, .cons ⟨rfl, q2⟩ h2, by rw [List.length_cons, List.length_cons, h3], by rw [List.map_cons, List.map_cons, h4], fun i v c e1 e2 => ?_⟩
              cases i with
              | zero =>
                cases e1
                cases e2
                exact ⟨_, _, rfl, ⟨o, ho, hc, n, hd⟩, mixKind_str _ _ _ _⟩
              | succ i => exact h5 i v c (by simpa using e1) (by simpa using e2)
theorem cv_dict (hc : X.calm = true) : CallV X E (.type "dict") gDict := fun pins s σ O P H₀ H xs vs us r Q I hd hs rx rv e q => by
  unfold gDict at e
  split at e
  · obtain ⟨ys, e1, e2⟩ := bd_op e
    obtain ⟨kvs, e3, e4⟩ := bd_op e2
    split at e4
    · rename_i hnd
      cases e4
      cases rx with
      | cons r1 rr =>
        cases rr
        obtain ⟨a, ws, rfl, ha, l⟩ := r1.list e1
        cases rv with
        | cons q1 q2 =>
          cases q2
          cases q1
          have hys := pairsD_get e3
          subst hys
          obtain ⟨its, ri, pl, hz⟩ := I.list (SqL.of ha)
          obtain ⟨kv, cs, h1, h2, h3, h4, h5⟩ := pairs_vals I l ri
          have hlen : its.length = ws.length := (Paired.length ri).symm
          have hkl : kv.length = its.length := (Paired.length h2).trans h3
          refine call_dict_pairs (knd := mixKind X.prog X.w) pl (I.ok.hd hc) cs h3 (by lia) ?_ h5 fun h' tk hdict hk => ?_
          · rw [h4]
            have : kvs.map (fun p => (Sum.inr p.1 : Key)) = (kvs.map (·.1)).map Sum.inr := by rw [List.map_map]; rfl
            rw [this]
            exact List.Pairwise.map _ (fun a b hab z => hab (Sum.inr.inj z)) hnd
          · have hfr : H s.heap.objs.size = none := I.hok.fresh (Nat.le_refl _)
            refine ⟨.ref s.heap.objs.size, _, I.laid (a := s.heap.objs.size) (o := .dK kv) (t' := tk) hk (Nat.le_refl _) ⟨by lia, beq_eq_false_iff_ne.mpr (Ne.symm (Nat.ne_of_lt (big_of I))), cs, h2, hdict⟩, rfl, q _ _ (same_upd hfr) ?_⟩
            refine ⟨_, kv, rfl, fun hz' => ?_, zjj, Paired.mapP h1 fun _ _ z => ⟨z.1, z.2.kp (.same (same_upd hfr))⟩⟩
            obtain ⟨o, eo⟩ := hd _ hz'
            rw [hs _ _ eo] at hfr
            cases hfr
    · cases e4
  · cases e
noncomputable def findT (kvs : List (Str × D)) (k : Str) : Option D := (kvs.find? fun p => decide (p.1 = k)).map (·.2)
noncomputable def gInT (neg : Bool) (x y : DV) : M DV := match x, y with
  | .d (.str k), .tbl kvs => rt (.d (.bool (if neg = true then !(findT kvs k).isSome else (findT kvs k).isSome)))
  | _, _ => none
noncomputable def gGet (x y : DV) : M DV := match x, y with
  | .tbl kvs, .d (.str k) => bd (op (findT kvs k)) fun d => rt (.d d)
  | _, _ => none
theorem valueAt_find {Z : List Addr} {H : Hp} {k : Str} : ∀ {kvs : List (Str × D)} {kv : List (Key × V)} {cs : List (Key × Value)}, KvR Z H kvs kv → KV kv cs →
    (findT kvs k = none ∧ valueAt cs (Sum.inr k) = none) ∨ ∃ d v u, findT kvs k = some d ∧ valueAt cs (Sum.inr k) = some u ∧ Rp Z H d v ∧ RelV v u
  | [], _, _, .nil, .nil => .inl ⟨rfl, rfl⟩
  | p :: r, _, _, .cons ⟨a1, a2⟩ l, .cons ⟨b1, b2⟩ t => by
    by_cases h : p.1 = k
    · refine .inr ⟨p.2, _, _, ?_, ?_, a2, b2⟩
      · unfold findT; rw [List.find?_cons_of_pos (by simpa using h)]; rfl
      · unfold valueAt
        rw [List.find?_cons_of_pos (by rw [← b1, a1, h]; simp)]; rfl
    · rcases valueAt_find (k := k) l t with ⟨z1, z2⟩ | ⟨d, v, u, z1, z2, z3⟩
      · refine .inl ⟨?_, ?_⟩
        · unfold findT at z1 ⊢; rw [List.find?_cons_of_neg (by simpa using h)]; exact z1
        · unfold valueAt at z2 ⊢
          rw [List.find?_cons_of_neg (by rw [← b1, a1]; simpa using h)]; exact z2
      · refine .inr ⟨d, v, u, ?_, ?_, z3⟩
        · unfold findT at z1 ⊢; rw [List.find?_cons_of_neg (by simpa using h)]; exact z1
        · unfold valueAt at z2 ⊢
          rw [List.find?_cons_of_neg (by rw [← b1, a1]; simpa using h)]; exact z2
theorem mapsTo {O P : List Addr} {H₀ : Hp} {kvs : List (Str × D)} {v : V} (I : Inv X pins σ H s) (r : RE O P H₀ H (.tbl kvs) v) : ∃ a cs, v = .ref a ∧ (a == sysModules) = false ∧ s.heap.DictOf (mixKind X.prog X.w) a cs ∧ ∃ kv, KvR (P ++ O) H kvs kv ∧ KV kv cs := by
  obtain ⟨a, kv, rfl, hz, ha, hk⟩ := r
  obtain ⟨_, h2, cs, h3, h4⟩ := (show ObjOk X.prog X.w H s.heap a (.dK kv) from I.hok a _ ha)
  exact ⟨a, cs, rfl, h2, h4, kv, hk, h3⟩
theorem ov_inT : OpV X E (compareOp .In) (gInT false) := fun pins s σ O P H₀ H x y v u vv uu r Q I hd hs rx ry ev eu e q => by
  unfold gInT at e
  split at e
  · rename_i k kvs
    cases e
    obtain ⟨a, cs, rfl, h2, hdd, kv, h3, h4⟩ := mapsTo I ry
    have rx' : Rp (P ++ O) H (.str k) v := rx
    cases rx'
    obtain ⟨t, rfl⟩ := ev
    cases eu
    refine wpAny_in_of (knd := mixKind X.prog X.w) (k := Sum.inr k) (mixKind_str _ _ _ _) h2 hdd.mapOf ?_
    have hb : (valueAt cs (Sum.inr k : Key)).isSome = (findT kvs k).isSome := by
      rcases valueAt_find (k := k) h3 h4 with ⟨z1, z2⟩ | ⟨d, v, u, z1, z2, _⟩ <;> rw [z1, z2] <;> rfl
    rw [hb]
    exact ⟨.bl _, H, I.tok _, rfl, q _ H (Same.refl H) (.bool _)⟩
  · cases e
noncomputable def NoCut (i : Expr) : Prop := ∀ ov iv, subscripted i false ov iv = operate [ov, iv] (getItem ov iv)
theorem px_get {o i : Expr} {fo fi : DS → M DV} {pos : Pos} (ho : PX X E o fo) (hi : PX X E i fi) (hs : NoCut i := by intro _ _; rfl) : PX X E (.Subscript o i pos) (e2 gGet fo fi) := by
  intro pins s σ H Q I h
  refine Subscript_ (thn (ho pins s σ H _ I (t2 h (t := fun v u H1 => ∃ O P x y r, (∀ a, a ∈ P ++ O → ∃ o, H a = some o) ∧ Same H H1 ∧ RE O P H H1 x v ∧ RE O P H H1 y u ∧ gGet x y = some r ∧ Fn E O P H H1 Q r) fun O P x y r v u H1 h1 h2 h3 h4 h5 h6 => ⟨O, P, x, y, r, h1, h2, h3, h4, h5, h6⟩)) fun ov s1 ⟨v, H1, I1, rv, q1⟩ => thn (hi pins s1 σ H1 _ I1 q1) fun iv s2 ⟨u, H2, I2, ru, q2⟩ => ?_)
  obtain ⟨O, P, x, y, r, h1, h2, h3, h4, h5, h6⟩ := q2
  unfold gGet at h5
  split at h5
  · rename_i kvs k
    obtain ⟨d, e1, e2⟩ := bd_op h5
    cases e2
    obtain ⟨a, cs, rfl, n1, hdd, kv, k3, k4⟩ := mapsTo I2 h3
    have ry' : Rp (P ++ O) H2 (.str k) u := h4
    cases ry'
    obtain ⟨t, rfl⟩ := ru
    cases rv
    rcases valueAt_find (k := k) k3 k4 with ⟨z1, z2⟩ | ⟨d', v', u', z1, z2, z3, z4⟩
    · rw [z1] at e1; cases e1
    · rw [z1] at e1
      cases e1
      have hT : s2.TypeIs (.ref a) "dict" := hdd.typeIs
      unfold subscriptTail
      refine wpAny_bind ?_
      rw [getitemInPython_of_ne hT.not_modules]
      refine wpAny_bind (wpAny_specialOf hT PySem.F.slot_dict_getitem.lookup ?_)
      have fin : wpAny (model X.prog X.w) X.A (subscripted i false (.ref a) (.str k t)) (fun r s₃ => wpAny (model X.prog X.w) X.A (letTemporaryGo o (.ref a) r >>= fun _ => pure r) (fun v s' => ∃ x H', Inv X pins σ H' s' ∧ RelV x v ∧ Q x H') X.xe s₃) X.xe s2 := by
        rw [hs (.ref a) (.str k t)]
        refine wpAny_operating (wpAny_getItem_of (knd := mixKind X.prog X.w) (k := Sum.inr k) (mixKind_str _ _ _ _) hdd.mapOf z2 (wpAny_bind (wpAny_letTemporaryGo (wpAny_pure ?_))))
        exact ⟨v', H2, I2.tok _, z4, h6 _ H2 (Same.refl H2) z3⟩
      first
        | exact wpAny_pure (wpAny_bind fin)
        | exact wpAny_bind (wpAny_pure (wpAny_bind fin))
        | exact wpAny_bind fin
  · cases h5
end
end L3
set_option Elab.async false
set_option linter.all false
set_option maxRecDepth 100000
set_option maxHeartbeats 4000000
set_option autoImplicit false
namespace L3
open PySem PySem.Spec L2
open PyProof.Rows hiding St
section
variable {X : Cx} {E : XK} {a b e o : Expr} {fa fb fo fe : DS → M DV} {pos : Pos}
theorem px_gs {x z : Str} (hm : ∃ t, X.mg x = some (.str z t)) (hz : PyData.strOk z = true) (hg : Gl X x := by rfl) (hd : (x == ("__debug__" : Str)) = false := by decide) : PX X E (.Name x pos) (eC (.str z)) := by
  obtain ⟨t, h⟩ := hm
  exact px_con (v := .str z) (pe_glob hg h ⟨t, rfl⟩ hd) fun _ _ => .str z hz
noncomputable def gIxC (x y : DV) : M DV := match x, y with
  | .d (.str z), .d (.int i) => bd (op (atI z.cps.toList i)) fun c => if z.length ≤ 1000000 ∧ PyData.strOk ⟨#[c]⟩ = true then rt (.d (.str ⟨#[c]⟩)) else none
  | _, _ => none
theorem px_ixC (ha : PX X E a fa) (hb : PX X E b fb) (hs : PlainIx b := by intro _ _; rfl) : PX X E (.Subscript a b pos) (e2 gIxC fa fb) := PE.mono (pe_ix ix_str ha hb hs) fun σ H Q q => t2 q fun O P x y r v u H1 dom s1 rx ry e q => by
  unfold gIxC at e
  split at e
  · rename_i z i
    obtain ⟨c, e1, e2⟩ := bd_op e
    split at e2
    · rename_i hc
      cases e2
      have rx' : Rp (P ++ O) H1 (.str z) v := rx
      have ry' : Rp (P ++ O) H1 (.int i) u := ry
      cases rx'
      cases ry'
      exact ⟨z, i, c, rfl, rfl, zjv hc.1, e1, q _ H1 (Same.refl H1) (.str _ hc.2)⟩
    · cases e2
  · cases e
noncomputable def asIF : DV → Option Int
  | .d (.int i) => if i.natAbs.log2 < 1920 ∧ (Str.empty ++ Str.ofString (toString i)).length ≤ 1000000 then some i else none
  | _ => none
noncomputable def gF2 (i : Int) (y : DV) : M DV := match y with
  | .d (.str z) => if z.length ≤ 1000000 ∧ (Str.empty ++ Str.ofString (toString i) ++ z).length ≤ 1000000 ∧ PyData.strOk (Str.empty ++ Str.ofString (toString i) ++ z) = true then rt (.d (.str (Str.empty ++ Str.ofString (toString i) ++ z))) else none
  | _ => none
noncomputable def eF2 (fa fb : DS → M DV) (δ : DS) : M DV := bd (fa δ) fun x => bd (op (asIF x)) fun i => bd (fb δ) fun y => gF2 i y
theorem asIF_get {x : DV} {i : Int} (h : asIF x = some i) : x = .d (.int i) ∧ i.natAbs.log2 < 1920 ∧ (Str.empty ++ Str.ofString (toString i)).length ≤ 1000000 := by
  unfold asIF at h
  split at h
  · split at h
    · rename_i hc
      cases h; exact ⟨rfl, hc⟩
    · cases h
  · cases h
theorem px_f2 {p1 p2 : Pos} (ha : PX X E a fa) (hb : PX X E b fb) : PX X E (.JoinedStr [.FormattedValue a (-1) none p1, .FormattedValue b (-1) none p2] pos) (eF2 fa fb) := by
  intro pins s σ H Q I h
  refine JoinedStr_many (joinParts_cons (FormattedValue_plain (thn (ha pins s σ H (fun v H1 => ∃ i, v = .int i ∧ i.natAbs.log2 < 1920 ∧ (Str.empty ++ Str.ofString (toString i)).length ≤ sizeLine ∧ tE E fb σ H1 fun u H2 => ∃ z, u = .str z ∧ z.length ≤ sizeLine ∧ (Str.empty ++ Str.ofString (toString i) ++ z).length ≤ sizeLine ∧ Q (.str (Str.empty ++ Str.ofString (toString i) ++ z)) H2) I
    (tE_bd (g := fun δ x => bd (op (asIF x)) fun i => bd (fb δ) fun y => gF2 i y) h fun O P δ x r v H1 rs rs1 s1 rx e q => ?_)) fun vv s1 ⟨v, H1, I1, rv, i, ev, hl, hz, q1⟩ => ?_)))
  · obtain ⟨i, h1, e'⟩ := bd_op e
    obtain ⟨rfl, h2, h3⟩ := asIF_get h1
    have rx' : Rp (P ++ O) H1 (.int i) v := rx
    cases rx'
    refine ⟨i, rfl, h2, zjv h3, ?_⟩
    rcases zze e' with ⟨y, e1, e2⟩ | ⟨c, e1, e2⟩
    · refine ⟨O, P, δ, .ok y, rs1, e1, fun u H2 s2 ry => ?_⟩
      unfold gF2 at e2
      split at e2
      · rename_i z
        split at e2
        · rename_i hc
          cases e2
          have ry' : Rp (P ++ O) H2 (.str z) u := ry
          cases ry'
          exact ⟨z, rfl, zjv hc.1, zjv hc.2.1, q _ H2 s2 (.str _ hc.2.2)⟩
        · cases e2
      · cases e2
    · subst e2
      exact ⟨O, P, δ, .error c, rs1, e1, q⟩
  · subst ev
    obtain ⟨t, rfl⟩ := rv
    refine wpAny_formatField_int hl ⟨hz, ?_⟩
    refine joinParts_cons (FormattedValue_plain (thn (hb pins _ σ H1 _ (I1.tok _) q1) fun uu s2 ⟨u, H2, I2, ru, z, eu, z1, z2, q2⟩ => ?_))
    subst eu
    obtain ⟨t', rfl⟩ := ru
    have fin : ∀ (s' : Shared), Inv X pins σ H2 s' → (Str.empty ++ Str.ofString (toString i) ++ z).length ≤ sizeLine ∧ wpAny (model X.prog X.w) X.A (joinParts (Str.empty ++ Str.ofString (toString i) ++ z) []) (EP X pins σ Q) X.xe s' := fun s' I' => ⟨z2, joinParts_nil ⟨.str _, H2, I'.tok _, ⟨_, rfl⟩, q2⟩ z2⟩
    exact wpAny_formatField_str (fin _ I2) (fin _ (I2.tok _)) z1
noncomputable def asS : DV → Option Str
  | .d (.str z) => some z
  | _ => none
theorem asS_get {x : DV} {z : Str} (h : asS x = some z) : x = .d (.str z) := by
  unfold asS at h
  split at h
  · cases h; rfl
  · cases h
noncomputable def splitOk (z p : Str) : Bool := decide (z.length ≤ 1000000) && decide (p.length ≠ 0) && decide ((Builtin.Str.partsBetween z (Builtin.Str.occurrences z p 0 z.length (z.length + 1)) p.length).length ≤ 1000000) && decide ((Txt.split z p).length ≤ 1000000) && (Txt.split z p).all PyData.strOk
noncomputable def gSplit (z : Str) (y : DV) : M DV := match y with
  | .d (.str p) => if splitOk z p = true then rt (.new ((Txt.split z p).map PyData.str)) else none
  | _ => none
noncomputable def eSplit (fo fe : DS → M DV) (δ : DS) : M DV := bd (fo δ) fun x => bd (op (asS x)) fun z => bd (fe δ) fun y => gSplit z y
theorem strs_rel (l : List (Str × Tok)) : Vals (l.map fun p => V.str p.1) (strValues l) := by
  induction l with
  | nil => exact .nil
  | cons p l ih => exact .cons ⟨p.2, rfl⟩ ih
theorem strs_rp {Z : List Addr} {H : Hp} : ∀ {zs : List Str}, zs.all PyData.strOk = true → RpL Z H (zs.map PyData.str) (zs.map V.str)
  | [], _ => .nil
  | z :: zs, h => by
    rw [List.all_cons, Bool.and_eq_true] at h
    exact .cons (.str z h.1) (strs_rp h.2)
theorem split_laid {A : Around} {E' : Value → Shared → Prop} {s : Shared} {x y : Str} {t u : Tok} {prog : Program} {w : World} {Q : Value → Shared → Prop} (hy : (y.length == 0) = false)
    (hq : ∀ (l : List (Str × Tok)) (n tk : Nat), l.map (·.1) = Txt.split x y → Q (.ref s.heap.objs.size) { s with heap := s.heap.push { cls := .type "list", data := .seq (strValues l).toArray n }, toks := tk })
    (hsz : x.length ≤ sizeLine) (hsz2 : (Builtin.Str.partsBetween x (Builtin.Str.occurrences x y 0 x.length (x.length + 1)) y.length).length ≤ sizeLine) :
    wpAny (model prog w) A (call (.builtin "str.split") [.str x t, .str y u]) Q E' s := by
  have one : Txt.split x y = [x] → Q (.ref s.heap.objs.size) { s with heap := s.heap.push { cls := .type "list", data := .seq (strValues [(x, t)]).toArray } } := fun e => hq [(x, t)] _ _ e.symm
  cases h1 : (decide (x.length < y.length) || decide (Builtin.Str.strKind x < Builtin.Str.strKind y))
  · cases hf : (Builtin.Str.occurrences x y 0 x.length (x.length + 1)).isEmpty
    · refine call_meets PySem.F.slot_str_split (typeIs_str _ _ _) PySem.F.entry_str_split (PySem.F.args_str_split_2 _ _) (meets_str_split_sep x y t u h1 hy hf hsz hsz2) ?_
      have e : Txt.split x y = Builtin.Str.partsBetween x (Builtin.Str.occurrences x y 0 x.length (x.length + 1)) y.length := (if_neg (ne_true_of_eq_false h1)).trans (if_neg (ne_true_of_eq_false hf))
      show wants Q E' _ { s with toks := _, heap := s.heap.push { cls := .type "list", data := .seq (strsFrom s.toks (Builtin.Str.partsBetween x (Builtin.Str.occurrences x y 0 x.length (x.length + 1)) y.length)).toArray } }
      rw [strsFrom_eq]
      exact hq (numbered s.toks _) _ _ ((numbered_texts _ _).trans e.symm)
    · exact call_meets PySem.F.slot_str_split (typeIs_str _ _ _) PySem.F.entry_str_split (PySem.F.args_str_split_2 _ _) (meets_str_split_not_found x y t u h1 hy hf) (one ((if_neg (ne_true_of_eq_false h1)).trans (if_pos hf)))
  · exact call_meets PySem.F.slot_str_split (typeIs_str _ _ _) PySem.F.entry_str_split (PySem.F.args_str_split_2 _ _) (meets_str_split_cannot_occur x y t u h1) (one (if_pos h1))
noncomputable def rSplit (E : XK) (x : V) (vs : List V) (H : Hp) (Q : VK) : Prop := ∃ z p r, x = .str z ∧ vs = [.str p] ∧ splitOk z p = true ∧ r = ((Txt.split z p).map V.str) ∧ ∀ a, H a = none → Q (.ref a) (upd H a (.lst r))
theorem mt_split : MtR X "str.split" (rSplit E) := fun pins s σ H x xs v us Q I rx rs h => by
  obtain ⟨z, p, r, rfl, rfl, hok, rfl, q⟩ := h
  obtain ⟨u, rfl, ru⟩ := vals1 rs
  obtain ⟨t, rfl⟩ := rx
  obtain ⟨t', rfl⟩ := ru
  unfold splitOk at hok
  simp only [Bool.and_eq_true, decide_eq_true_eq] at hok
  obtain ⟨⟨⟨⟨o1, o2⟩, o3⟩, o4⟩, o5⟩ := hok
  refine split_laid (by simpa using o2) (fun l n tk el => ?_) (zjv o1) (zjv o3)
  refine ⟨.ref s.heap.objs.size, _, I.laid (a := s.heap.objs.size) (o := .lst ((Txt.split z p).map V.str)) (t' := tk) (fun _ _ q => Heap.get?_push_of_some _ q) (Nat.le_refl _) ⟨by rw [List.length_map]; exact zjv o4, strValues l, n, ?_, Heap.get?_push_size _ rfl⟩, rfl, q _ (I.hok.fresh (Nat.le_refl _))⟩
  rw [← el, List.map_map]
  exact strs_rel l
theorem px_split {apos cpos : Pos} (ho : PX X E o fo) (he : PX X E e fe)
    (hbase : attributeBase o "split" X.env (eval o X.env) = eval o X.env := by rfl)
    (hfew : ((backTo cpos (starEach [e] X.env)).all (fun x => !x.1) && (backToKw cpos (keywordEach [] X.env)).all (fun x => x.1.isSome)
      && decide ([e].length + ([] : List Keyword).length + (if ([] : List Keyword).isEmpty then 0 else 1) < 30)) = true := by rfl)
    (hline : (apos.endLine == cpos.line) = true := by rfl) (hs : starEach [e] X.env = (false, eval e X.env) :: starEach [] X.env := by rfl) (hplain : (backTo cpos (starEach [] X.env)).any (·.1) = false := by rfl) :
    PX X E (.Call (.Attribute o "split" apos) [e] [] cpos) (eSplit fo fe) :=
  PE.mono (pe_bm PySem.F.plainAttrs_str PySem.F.slot_str_split PySem.F.type_str_split (mt_split (E := E)) ho (pa_cons he pa_nil hs) hbase hfew hline hs hplain) fun σ H Q q =>
    tE_bd (g := fun δ x => bd (op (asS x)) fun z => bd (fe δ) fun y => gSplit z y) q fun O P δ x r v H1 rs rs1 s1 rx e q => by
      obtain ⟨z, h1, e'⟩ := bd_op e
      obtain rfl := asS_get h1
      have rx' : Rp (P ++ O) H1 (.str z) v := rx
      cases rx'
      refine ⟨rfl, ?_⟩
      rcases zze e' with ⟨y, e1, e2⟩ | ⟨c, e1, e2⟩
      · refine ⟨O, P, δ, .ok y, rs1, e1, fun u H2 s2 ry => ?_⟩
        unfold gSplit at e2
        split at e2
        · rename_i p
          split at e2
          · rename_i hok
            cases e2
            have ry' : Rp (P ++ O) H2 (.str p) u := ry
            cases ry'
            refine ⟨z, p, _, rfl, rfl, hok, rfl, fun a ha => q _ _ (s2.trans (same_upd ha)) (RE.made (s1.trans s2) ha (strs_rp ?_))⟩
            unfold splitOk at hok
            simp only [Bool.and_eq_true] at hok
            exact hok.2
          · cases e2
        · cases e2
      · subst e2
        exact ⟨O, P, δ, .error c, rs1, e1, q⟩
noncomputable def truL (x : DV) : M Bool := bd (op (asL x)) fun ys => rt (!ys.isEmpty)
theorem pb_lst (h : PX X E e fe) (he : ∀ whole, isTrue e X.env whole = (do let v ← whole; standAt e.pos; holding [v] (truthy v)) := by intro _; rfl) : PB X E e (fun δ => bd (fe δ) truL) :=
  PT.mono (pt_truth h he) fun σ H Q q => tE_bdB (g := fun _ => truL) q fun O P δ x r v H1 rs rs1 s1 rx e' q' => by
    obtain ⟨ys, h1, h2⟩ := bd_op e'
    cases h2
    obtain ⟨a, ws, rfl, ha, l⟩ := rx.list h1
    refine ⟨!ys.isEmpty, .inl ⟨ws, SqL.of ha, ?_⟩, q' H1 (Same.refl H1)⟩
    cases l <;> rfl
noncomputable def gAddS (x y : DV) : M DV := match x, y with
  | .d (.str a), .d (.str b) => if a.length + b.length ≤ 1000000 ∧ PyData.strOk (a ++ b) = true then rt (.d (.str (a ++ b))) else none
  | _, _ => none
theorem ov_addS : OpV X E (binaryOp .Add) gAddS := OpV.rule op_add_str fun O P H₀ H x y v u r Q hd hs rx ry e q => by
  unfold gAddS at e
  split at e
  · rename_i a b
    split at e
    · rename_i hc
      cases e
      have rx' : Rp (P ++ O) H (.str a) v := rx
      have ry' : Rp (P ++ O) H (.str b) u := ry
      cases rx'
      cases ry'
      exact ⟨a, b, rfl, rfl, zjv hc.1, q _ H (Same.refl H) (.str _ hc.2)⟩
    · cases e
  · cases e
noncomputable def gStrI (xs : List DV) : M DV := match xs with
  | [.d (.int i)] => if i.natAbs.log2 < 1920 ∧ PyData.strOk (Str.ofString (toString i)) = true then rt (.d (.str (Str.ofString (toString i)))) else none
  | _ => none
theorem cv_strI : CallV X E (.type "str") gStrI := CallV.of call_str_int fun O P H₀ H xs vs r Q hd hs rx e q => by
  unfold gStrI at e
  split at e
  · rename_i i
    split at e
    · rename_i hc
      cases e
      cases rx with
      | cons r1 rr =>
        cases rr
        cases r1
        exact ⟨_, rfl, hc.1, q _ H (Same.refl H) (.str _ hc.2)⟩
    · cases e
  · cases e
end
end L3
set_option Elab.async false
set_option linter.all false
set_option maxRecDepth 100000
set_option maxHeartbeats 4000000
set_option autoImplicit false
namespace L3
open PySem PySem.Spec L2 PySem.SeqAt PySem.MeetsSeq
open PyProof.Rows hiding St
end L3
set_option Elab.async false
set_option linter.all false
set_option maxRecDepth 100000
set_option maxHeartbeats 4000000
set_option autoImplicit false
namespace L3
open PySem PySem.Spec L2 PySem.SeqAt PySem.MeetsSeq
open PyProof.Rows hiding St
section
variable {X : Cx} {E : XK} {e o : Expr} {f : DS → M DV} {pos : Pos}
end
end L3
set_option Elab.async false
set_option linter.all false
set_option maxRecDepth 100000
set_option maxHeartbeats 4000000
set_option autoImplicit false
namespace L3
open PySem PySem.Spec L2
open PyProof.Rows hiding St
section
variable {X : Cx} {E : XK} {o e : Expr} {fo fe : DS → M DV} {pos : Pos}
noncomputable def strsL : List D → Option (List Str)
  | [] => some []
  | .str z :: r => (strsL r).map (z :: ·)
  | _ :: _ => none
theorem strsL_get : ∀ {xs : List D} {zs : List Str}, strsL xs = some zs → xs = zs.map PyData.str
  | [], zs, h => by cases h; rfl
  | x :: r, zs, h => by
    cases x with
    | str b =>
      unfold strsL at h
      cases e : strsL r with
      | none => rw [e] at h; cases h
      | some cs => rw [e] at h; cases h; rw [strsL_get e]; rfl
    | _ => cases h
theorem strsL_map (zs : List Str) : strsL (zs.map PyData.str) = some zs := by
  induction zs with
  | nil => rfl
  | cons b r ih => rw [List.map_cons, strsL, ih]; rfl
theorem vals_strs {Z : List Addr} {H : Hp} : ∀ {zs : List Str} {vs : List V} {us : List Value}, RpL Z H (zs.map PyData.str) vs → Vals vs us → ∃ l : List (Str × Tok), us = strValues l ∧ l.map (·.1) = zs
  | [], _, _, .nil, .nil => ⟨[], rfl, rfl⟩
  | b :: r, _, _, .cons p l, .cons q t => by
    cases p
    obtain ⟨tk, rfl⟩ := q
    obtain ⟨ps, e1, e2⟩ := vals_strs l t
    exact ⟨(b, tk) :: ps, by rw [e1]; rfl, by rw [List.map_cons, e2]⟩
noncomputable def gJoin (z : Str) (y : DV) : M DV := bd (op (asL y)) fun ys => bd (op (strsL ys)) fun zs => if JoinOk z zs = true ∧ PyData.strOk (Txt.join z zs) = true then rt (.d (.str (Txt.join z zs))) else none
noncomputable def eJoin (fo fe : DS → M DV) (δ : DS) : M DV := bd (fo δ) fun x => bd (op (asS x)) fun z => bd (fe δ) fun y => gJoin z y
noncomputable def rJoin (E : XK) (x : V) (vs : List V) (H : Hp) (Q : VK) : Prop := ∃ O P H₀ z dy v r, x = .str z ∧ vs = [v] ∧ RE O P H₀ H dy v ∧ gJoin z dy = some r ∧ Fn E O P H₀ H Q r
theorem mt_join : MtR X "str.join" (rJoin E) := fun pins s σ H x xs v us Q I rx rs h => by
  obtain ⟨O, P, H₀, z, dy, w, r, rfl, rfl, r2, e, q⟩ := h
  obtain ⟨u, rfl, ru⟩ := vals1 rs
  obtain ⟨t, rfl⟩ := rx
  unfold gJoin at e
  obtain ⟨ys, e1, e⟩ := bd_op e
  obtain ⟨zs, e2, e⟩ := bd_op e
  split at e
  · rename_i hc
    cases e
    obtain ⟨a, ws, rfl, ha, l⟩ := r2.list e1
    cases ru
    have hys := strsL_get e2
    subst hys
    obtain ⟨its, ri, pl, hz⟩ := I.list (SqL.of ha)
    obtain ⟨lt, h1, h2⟩ := vals_strs l ri
    subst h1
    exact SC.join pl.isList h2 hc.1 fun t' k => ⟨.str _, H, I.tok _, ⟨_, rfl⟩, q _ H (Same.refl H) (.str _ hc.2)⟩
  · cases e
theorem px_join {apos cpos : Pos} (ho : PX X E o fo) (he : PX X E e fe)
    (hbase : attributeBase o "join" X.env (eval o X.env) = eval o X.env := by rfl)
    (hfew : ((backTo cpos (starEach [e] X.env)).all (fun x => !x.1) && (backToKw cpos (keywordEach [] X.env)).all (fun x => x.1.isSome)
      && decide ([e].length + ([] : List Keyword).length + (if ([] : List Keyword).isEmpty then 0 else 1) < 30)) = true := by rfl)
    (hline : (apos.endLine == cpos.line) = true := by rfl) (hs : starEach [e] X.env = (false, eval e X.env) :: starEach [] X.env := by rfl) (hplain : (backTo cpos (starEach [] X.env)).any (·.1) = false := by rfl) :
    PX X E (.Call (.Attribute o "join" apos) [e] [] cpos) (eJoin fo fe) :=
  PE.mono (pe_bm PySem.F.plainAttrs_str PySem.F.slot_str_join PySem.F.type_str_join (mt_join (E := E)) ho (pa_cons he pa_nil hs) hbase hfew hline hs hplain) fun σ H Q q =>
    tE_bd (g := fun δ x => bd (op (asS x)) fun z => bd (fe δ) fun y => gJoin z y) q fun O P δ x r v H1 rs rs1 s1 rx e q => by
      obtain ⟨z, h1, e'⟩ := bd_op e
      obtain rfl := asS_get h1
      have rx' : Rp (P ++ O) H1 (.str z) v := rx
      cases rx'
      refine ⟨rfl, ?_⟩
      rcases zze e' with ⟨y, e1, e2⟩ | ⟨c, e1, e2⟩
      · exact ⟨O, P, δ, .ok y, rs1, e1, fun u H2 s2 ry => ⟨O, P, H, z, y, u, r, rfl, rfl, ry.from s1, e2, q.on s2⟩⟩
      · subst e2
        exact ⟨O, P, δ, .error c, rs1, e1, q⟩
end
end L3
set_option Elab.async false
set_option linter.all false
set_option maxRecDepth 100000
set_option maxHeartbeats 4000000
set_option autoImplicit false
namespace L3
open PySem PySem.Spec L2
open PyProof.Rows hiding St
noncomputable def splitO : List DV → Option (List D × List D × List D)
  | [] => none
  | .own xs :: r => (datas r).map fun q => ([], xs, q)
  | x :: r => match asD x, splitO r with
    | some d, some (p, xs, q) => some (d :: p, xs, q)
    | _, _ => none
theorem REs.split {O P : List Addr} {H H' : Hp} (dom : ∀ a, a ∈ P ++ O → ∃ o, H a = some o) : ∀ {xs : List DV} {vs : List V} {p ys q : List D}, REs O P H H' xs vs → splitO xs = some (p, ys, q) → ∃ a ps us qs, vs = ps ++ .ref a :: qs ∧ a ∈ P ∧ H' a = some (.lst us) ∧ RpL (P ++ O) H' p ps ∧ RpL (P ++ O) H' ys us ∧ RpL (P ++ O) H' q qs
  | [], _, _, _, _, _, h => by cases h
  | x :: r, v :: vs, p, ys, q, .cons r1 t, h => by
    have gen : (match asD x, splitO r with
      | some d, some (p, xs, q) => some (d :: p, xs, q)
      | _, _ => none) = some (p, ys, q) → ∃ a ps us qs, v :: vs = ps ++ .ref a :: qs ∧ a ∈ P ∧ H' a = some (.lst us) ∧ RpL (P ++ O) H' p ps ∧ RpL (P ++ O) H' ys us ∧ RpL (P ++ O) H' q qs := fun h => by
      split at h
      · rename_i d p' xs' q' h1 h2
        cases h
        obtain ⟨a, ps, us, qs, e, hP, ha, l1, l2, l3⟩ := REs.split dom t h2
        exact ⟨a, _ :: ps, us, qs, by rw [e]; rfl, hP, ha, .cons (r1.data dom h1) l1, l2, l3⟩
      · cases h
    cases x with
    | own zs =>
      unfold splitO at h
      cases hd : datas r with
      | none => rw [hd] at h; cases h
      | some ds =>
        rw [hd] at h
        cases h
        obtain ⟨a, vs, rfl, hP, ha, l⟩ := r1
        exact ⟨a, [], vs, _, rfl, hP, ha, .nil, l, REs.data dom t hd⟩
    | d z => exact gen h
    | new z => exact gen h
    | ob C fs => exact gen h
    | tbl kvs => exact gen h
    | ex z => exact gen h
    | tpo p xs z => exact gen h
    | nwt p xs z => exact gen h
    | scr K ns => exact gen h
section
variable {X : Cx} {E : XK} {a b e o : Expr} {es : List Expr} {fa fb f fe : DS → M DV} {fr : DS → M (List DV)} {gc : DS → M Bool} {pos : Pos}
noncomputable def eTupO (fr : DS → M (List DV)) (δ : DS) : M DV := bd (fr δ) fun xs => bd (op (splitO xs)) fun t => if xs.length ≤ 1000000 then rt (.tpo t.1 t.2.1 t.2.2) else none
theorem px_tupO {k : Nat} (h : PAs X E es fr) : PX X E (.Tuple es k pos) (eTupO fr) := PE.mono (pe_tup h) fun σ H Q q => tA_bd (g := fun _ xs => bd (op (splitO xs)) fun t => if xs.length ≤ 1000000 then rt (.tpo t.1 t.2.1 t.2.2) else none) q fun O P δ xs r vs H1 rs rs1 s1 rx e q => by
  obtain ⟨⟨p, ys, qq⟩, hd, e⟩ := bd_op e
  split at e
  · rename_i hz
    cases e
    obtain ⟨a, ps, us, qs, e1, hP, ha, l1, l2, l3⟩ := REs.split rs.dom rx hd
    refine ⟨zjv (by rw [← Paired.length rx]; exact hz), fun t ht => q _ _ (same_upd ht) ?_⟩
    have k : Kp (P ++ O) H1 (P ++ O) (upd H1 t (.tup vs)) := .same (same_upd ht)
    refine ⟨t, a, ps, us, qs, rfl, fun h => ?_, by rw [zjj, e1], hP, same_upd ht a _ ha, l1.kp k, l2.kp k, l3.kp k⟩
    obtain ⟨o, q⟩ := rs1.dom t h
    rw [q] at ht; cases ht
  · cases e
theorem pb_frz (i : Nat) (h : PB X E e gc) : PB X E e (fun δ => gc (frz i δ)) := PT.mono h fun σ H Q q => by
  obtain ⟨O, P, δ, r, rs, e, q⟩ := q
  obtain ⟨P', hP, rs'⟩ := rs.frz i
  exact ⟨O, P', frz i δ, r, rs', e, q⟩
noncomputable def fAppT (i k : Nat) (f : DS → M DV) (δ : DS) : M Out := match δ[i]? with
  | some (some (.tpo p xs q)) => if p.length = k then bd (f δ) fun x => bd (op (asD x)) fun d => if xs.length < 1000000 then rt (.nx (δ.set i (some (.tpo p (xs ++ [d]) q)))) else none else none
  | _ => none
theorem atI_mid {ps qs : List V} {v : V} : atI (ps ++ v :: qs) (ps.length : Int) = some v := by
  unfold atI
  have : ixN (ps ++ v :: qs).length (ps.length : Int) = some ps.length := by
    unfold ixN
    simp
    lia
  rw [this]
  simp
theorem st_appT {i k : Nat} {apos cpos : Pos} (ho : PE X o (tOp (rIx X.K) (tVar i) (tC (.int (k : Int))))) (he : PX X E e f)
    (hbase : attributeBase o "append" X.env (eval o X.env) = eval o X.env := by rfl)
    (hfew : ((backTo cpos (starEach [e] X.env)).all (fun x => !x.1) && (backToKw cpos (keywordEach [] X.env)).all (fun x => x.1.isSome)
      && decide ([e].length + ([] : List Keyword).length + (if ([] : List Keyword).isEmpty then 0 else 1) < 30)) = true := by rfl)
    (hline : (apos.endLine == cpos.line) = true := by rfl) (hs : starEach [e] X.env = (false, eval e X.env) :: starEach [] X.env := by rfl) (hplain : (backTo cpos (starEach [] X.env)).any (·.1) = false := by rfl)
    (hsw : swapsWith (.Call (.Attribute o "append" apos) [e] [] cpos) none pos.line X.env = pure false := by rfl) : PSt X E (.Expr (.Call (.Attribute o "append" apos) [e] [] cpos) pos) (fAppT i k f) :=
  PS.mono (ps_expr (pe_bm PySem.F.plainAttrs_list PySem.F.slot_list_append PySem.F.type_list_append mt_append ho (pa_cons he pa_nil hs) hbase hfew hline hs hplain) hsw) fun T σ H q => by
    obtain ⟨O, P, δ, r, rs, e, q⟩ := q
    unfold fAppT at e
    split at e
    · rename_i p xs qq ei
      split at e
      · rename_i hk
        obtain ⟨v, ev, _, t, a, ps, vs, qs, rfl, hzt, ht, hP, ha, l1, l2, l3⟩ := rs.at' i _ ei
        refine ⟨.ref t, ev, .inr (.inl ⟨_, _, _, .ref a, rfl, rfl, SqT.of ht, ?_, ?_⟩)⟩
        · rw [← hk, l1.length]; exact atI_mid
        refine ⟨.inl ⟨rfl, _, SqL.of ha⟩, ?_⟩
        rcases zze e with ⟨x, e1, e2⟩ | ⟨cx, e1, e2⟩
        · obtain ⟨d, e3, e4⟩ := bd_op e2
          split at e4
          · rename_i hz
            cases e4
            refine ⟨O, P, δ, .ok x, rs, e1, fun u H1 s1 rx => ?_⟩
            have ru := rx.data rs.dom e3
            have l4 := (l2.kp (.same s1)).append (.cons ru .nil)
            have kz : Kp (P ++ O) H1 (P ++ O) (upd H1 a (.lst (vs ++ [u]))) := ⟨fun b o hb q => by rw [zqq (show b ≠ a from fun z => hb (by rw [z]; exact List.mem_append_left _ hP))]; exact q, fun b hb => .inl hb⟩
            have hta : t ≠ a := fun z => hzt (by rw [z]; exact List.mem_append_left _ hP)
            obtain ⟨k1, rs'⟩ := (rs.same s1).growG (x' := .tpo p (xs ++ [d]) qq) (us := vs ++ [u]) ei ev (a := a) ⟨t, _, rfl, s1 t _ ht, by rw [l1.length, List.getElem?_append_right (Nat.le_refl _), Nat.sub_self]; rfl⟩ (fun _ => nofun)
              ⟨t, a, ps, vs ++ [u], qs, rfl, hzt, by rw [zqq hta]; exact s1 t _ ht, hP, zjj, (l1.kp (.same s1)).kp kz, l4.kp kz, (l3.kp (.same s1)).kp kz⟩ (fun b h => by
                obtain ⟨t', us, e', ht', hu⟩ := h
                cases e'
                rw [zqq hta, s1 t _ ht] at ht'
                cases ht'
                rw [l1.length, List.getElem?_append_right (Nat.le_refl _), Nat.sub_self] at hu
                cases hu
                rfl) hP
            refine ⟨a, vs, u, rfl, rfl, s1 a _ ha, ?_, q σ _ P ((Kp.same s1).trans k1) rs'⟩
            rw [← l2.length]
            exact Nat.lt_of_lt_of_le hz (by rw [sizeLine_eq]; decide)
          · cases e4
        · subst e2
          exact ⟨O, P, δ, .error cx, rs, e1, fun dx H' s => q dx H' P (.same s)⟩
      · cases e
    · cases e
theorem kept_inv {pins : List (Addr × Obj)} {σ : St} {H : Hp} : KeptByPush (Inv X pins σ H) := fun s ob k I => I.kept fun b u q => Heap.get?_push_of_some _ q
noncomputable def gCutT (x : DV) (lo hi : Option Int) : M DV := bd (op (asS x)) fun z => if z.length ≤ 1000000 ∧ PyData.strOk (Txt.slice z lo hi) = true then rt (.d (.str (Txt.slice z lo hi))) else none
noncomputable def asInt : DV → Option Int
  | .d (.int i) => some i
  | _ => none
theorem asInt_get {x : DV} {i : Int} (h : asInt x = some i) : x = .d (.int i) := by
  cases x with
  | d y => cases y <;> first | (cases h; rfl) | cases h
  | _ => cases h
noncomputable def eCutLT (fa fb : DS → M DV) (δ : DS) : M DV := bd (fa δ) fun x => bd (fb δ) fun y => bd (op (asInt y)) fun i => gCutT x (some i) none
noncomputable def eCutHT (fa fb : DS → M DV) (δ : DS) : M DV := bd (fa δ) fun x => bd (fb δ) fun y => bd (op (asInt y)) fun i => gCutT x none (some i)
theorem px_cutLT {p2 : Pos} (ha : PX X E a fa) (hb : PX X E b fb) : PX X E (.Subscript a (.Slice (some b) none none p2) pos) (eCutLT fa fb) := by
  intro pins s σ H Q I h
  have h1 : tE E fa σ H fun x H1 => tE E fb σ H1 fun y H2 => ∃ z i, x = .str z ∧ y = .int i ∧ z.length ≤ 1000000 ∧ Q (.str (Txt.slice z (some i) none)) H2 := by
    refine tE_bd (g := fun δ x => bd (fb δ) fun y => bd (op (asInt y)) fun i => gCutT x (some i) none) h fun O P δ x r v H1 rs rs1 s1 rx e q => ?_
    rcases zze e with ⟨y, e1, e2⟩ | ⟨c, e1, e2⟩
    · refine ⟨O, P, δ, .ok y, rs1, e1, fun u H2 s2 ry => ?_⟩
      obtain ⟨i, hi, e3⟩ := bd_op e2
      obtain ⟨z, hz, e4⟩ := bd_op e3
      obtain rfl := asInt_get hi
      obtain rfl := asS_get hz
      split at e4
      · rename_i hc
        cases e4
        have rx' : Rp (P ++ O) H1 (.str z) v := rx
        have ry' : Rp (P ++ O) H2 (.int i) u := ry
        cases rx'
        cases ry'
        exact ⟨z, i, rfl, rfl, hc.1, q _ H2 s2 (.str _ hc.2)⟩
      · cases e4
    · subst e2
      exact ⟨O, P, δ, .error c, rs1, e1, q⟩
  refine Subscript_ (thn (ha pins s σ H _ I h1) fun v s1 ⟨x, H1, I1, r1, q1⟩ => ?_)
  refine wpAny_Slice ?_
  rw [evalPart_some]
  refine thn (hb pins s1 σ H1 _ I1 q1) fun u s2 ⟨y, H2, I2, r2, z, i, ex, ey, hz, q⟩ => ?_
  subst ex
  subst ey
  obtain ⟨t, rfl⟩ := r1
  obtain ⟨t', rfl⟩ := r2
  rw [evalPart_none]
  refine wpAny_pure ?_
  refine wpAny_pure ?_
  obtain ⟨T, id, h1, h2, h3⟩ := SBG.sliceItem_sn (prog := X.prog) (w := X.w) (A := X.A) (E := X.xe) (x := z) (t := t) (i := i) (ui := t') (Q := EP X pins σ Q) kept_inv I2 (fun s' t' I' => ⟨.str _, H2, I', ⟨_, rfl⟩, q⟩) (Nat.le_trans hz (by rw [sizeLine_eq]; decide))
  exact tail_any (ops := [.ref s2.heap.objs.size, .str z t]) h2 h1 h3 (by with_unfolding_all rfl)
theorem px_cutHT {p2 : Pos} (ha : PX X E a fa) (hb : PX X E b fb) : PX X E (.Subscript a (.Slice none (some b) none p2) pos) (eCutHT fa fb) := by
  intro pins s σ H Q I h
  have h1 : tE E fa σ H fun x H1 => tE E fb σ H1 fun y H2 => ∃ z i, x = .str z ∧ y = .int i ∧ z.length ≤ 1000000 ∧ Q (.str (Txt.slice z none (some i))) H2 := by
    refine tE_bd (g := fun δ x => bd (fb δ) fun y => bd (op (asInt y)) fun i => gCutT x none (some i)) h fun O P δ x r v H1 rs rs1 s1 rx e q => ?_
    rcases zze e with ⟨y, e1, e2⟩ | ⟨c, e1, e2⟩
    · refine ⟨O, P, δ, .ok y, rs1, e1, fun u H2 s2 ry => ?_⟩
      obtain ⟨i, hi, e3⟩ := bd_op e2
      obtain ⟨z, hz, e4⟩ := bd_op e3
      obtain rfl := asInt_get hi
      obtain rfl := asS_get hz
      split at e4
      · rename_i hc
        cases e4
        have rx' : Rp (P ++ O) H1 (.str z) v := rx
        have ry' : Rp (P ++ O) H2 (.int i) u := ry
        cases rx'
        cases ry'
        exact ⟨z, i, rfl, rfl, hc.1, q _ H2 s2 (.str _ hc.2)⟩
      · cases e4
    · subst e2
      exact ⟨O, P, δ, .error c, rs1, e1, q⟩
  refine Subscript_ (thn (ha pins s σ H _ I h1) fun v s1 ⟨x, H1, I1, r1, q1⟩ => ?_)
  refine wpAny_Slice ?_
  rw [evalPart_none]
  refine wpAny_pure ?_
  rw [evalPart_some]
  refine thn (hb pins s1 σ H1 _ I1 q1) fun u s2 ⟨y, H2, I2, r2, z, i, ex, ey, hz, q⟩ => ?_
  subst ex
  subst ey
  obtain ⟨t, rfl⟩ := r1
  obtain ⟨t', rfl⟩ := r2
  refine wpAny_pure ?_
  obtain ⟨T, id, h1, h2, h3⟩ := SBG.sliceItem_ns (prog := X.prog) (w := X.w) (A := X.A) (E := X.xe) (x := z) (t := t) (j := i) (uj := t') (Q := EP X pins σ Q) kept_inv I2 (fun s' t' I' => ⟨.str _, H2, I', ⟨_, rfl⟩, q⟩) (Nat.le_trans hz (by rw [sizeLine_eq]; decide))
  exact tail_any (ops := [.ref s2.heap.objs.size, .str z t]) h2 h1 h3 (by with_unfolding_all rfl)
end
end L3
set_option Elab.async false
set_option linter.all false
set_option maxRecDepth 100000
set_option maxHeartbeats 4000000
set_option autoImplicit false
namespace L3
open PySem PySem.Spec L2
open PyProof.Rows hiding St
section
variable {X : Cx} {E : XK}
noncomputable def intsL : List D → Option (List Int)
  | [] => some []
  | .int i :: r => (intsL r).map (i :: ·)
  | _ :: _ => none
theorem intsL_get : ∀ {xs : List D} {ns : List Int}, intsL xs = some ns → xs = ns.map PyData.int
  | [], ns, h => by cases h; rfl
  | x :: r, ns, h => by
    cases x with
    | int b =>
      unfold intsL at h
      cases e : intsL r with
      | none => rw [e] at h; cases h
      | some cs => rw [e] at h; cases h; rw [intsL_get e]; rfl
    | _ => cases h
theorem intsL_map (ns : List Int) : intsL (ns.map PyData.int) = some ns := by
  induction ns with
  | nil => rfl
  | cons b r ih => rw [List.map_cons, intsL, ih]; rfl
theorem vals_ints {Z : List Addr} {H : Hp} : ∀ {ns : List Int} {vs : List V} {us : List Value}, RpL Z H (ns.map PyData.int) vs → Vals vs us → ∃ ps : List (Int × Tok), us = ps.map (fun p => Value.int p.1 p.2) ∧ ps.map (·.1) = ns
  | [], _, _, .nil, .nil => ⟨[], rfl, rfl⟩
  | b :: r, _, _, .cons p l, .cons q t => by
    cases p
    obtain ⟨tk, rfl⟩ := q
    obtain ⟨ps, e1, e2⟩ := vals_ints l t
    exact ⟨(b, tk) :: ps, by rw [e1]; rfl, by rw [List.map_cons, e2]⟩
end
end L3
set_option Elab.async false
set_option linter.all false
set_option maxRecDepth 100000
set_option maxHeartbeats 4000000
set_option autoImplicit false
namespace L3
open PySem PySem.Spec L2
open PyProof.Rows hiding St
theorem maxLoopD {prog : Program} {w : World} {A : Around} {R : Result → Shared → Prop} {I : Addr} {fp wr : List Addr} {n : Nat} {P : Nat → Value → Prop} {St : Nat → Heap → Prop} (W : Walks prog w A.in1 I fp wr n P St) (bt : Nat → Nat → Bool) (hc : CmpOf prog w A.in1 .Gt P bt) (S : Addr) (hS : S ∉ fp) (kw : List (Str × Value)) :
    ∀ (k j : Nat) (s : Shared) (vb : Value) (c : Nat), n - (j + 1) = k → j + 1 ≤ n → St (j + 1) s.heap → P (argBest bt j) vb → s.heap.get? S = some { cls := .type "list", data := .seq #[vb, vb] c } →
      (∀ (v : Value) (h' : Heap) (tk : Nat), P (argBest bt (n - 1)) v → (∀ (b : Addr) (o : Obj), b ∉ wr → b ≠ S → s.heap.get? b = some o → h'.get? b = some o) → R (.ok (.ret v)) { s with heap := h', toks := tk }) →
      codeAny (model prog w) A (Code.builtin "max.loop" { pos := [.ref I, .none, .ref S], kw := kw }) R s := by
  have hSw : S ∉ wr := fun h => hS (W.sub S h)
  intro k
  induction k with
  | zero =>
    intro j s vb c hk hj hst hp hs q
    have hjn : j + 1 = n := by lia
    refine codeAny_builtin F.entry_max_loop ?_
    rw [Around.under_plainId F.plain_max_loop]
    refine wpAny_bind (wpAny_seqItems hs rfl ?_)
    refine wpAny_bind (wpAny_tryCatch (W.done s _ _ (hjn ▸ hst) fun h' tk hk' => ?_))
    refine wpAny_bind (wpAny_updateSeq (hk' S _ hSw hs) rfl ?_)
    refine wpAny_bind (wpAny_letGo ?_)
    refine wpAny_pure ?_
    refine q vb _ _ (by rw [← hjn]; exact hp) fun b o hb hbS e => ?_
    rw [Heap.get?_update_other _ _ (Ne.symm hbS)]
    exact hk' b o hb e
  | succ k ih =>
    intro j s vb c hk hj hst hp hs q
    refine codeAny_builtin F.entry_max_loop ?_
    rw [Around.under_plainId F.plain_max_loop]
    refine wpAny_bind (wpAny_seqItems hs rfl ?_)
    refine wpAny_bind (wpAny_tryCatch (W.item (j + 1) s _ _ (by lia) hst fun v h' tk pv st' hk' => ?_))
    refine wpAny_bind (wpAny_pure ?_)
    refine wpAny_bind (wpAny_tryCatch (wpAny_holding ?_))
    refine wpAny_bind (hc (j + 1) (argBest bt j) v vb _ _ _ pv hp ?_)
    refine wpAny_bind (wpAny_holding (wpAny_truthy_bool ?_))
    refine wpAny_bind (wpAny_letGo ?_)
    refine wpAny_pure ?_
    have hab : argBest bt (j + 1) = if bt (j + 1) (argBest bt j) = true then j + 1 else argBest bt j := rfl
    have hs' := hk' S _ hSw hs
    cases hb : bt (j + 1) (argBest bt j) with
    | false =>
      rw [hb, if_neg (by decide)] at hab
      refine wpAny_bind (wpAny_letGo ?_)
      refine wpAny_pure ⟨plainId_quiet F.plain_max_loop _, ?_⟩
      refine ih (j + 1) _ vb c (by lia) (by lia) st' (by rw [hab]; exact hp) hs' fun v2 h2 tk2 p2 k2 => ?_
      exact q v2 h2 tk2 p2 fun b o hb' hbS e => k2 b o hb' hbS (hk' b o hb' e)
    | true =>
      rw [hb, if_pos rfl] at hab
      refine wpAny_bind (wpAny_updateSeq hs' rfl ?_)
      refine wpAny_bind (wpAny_letGo ?_)
      refine wpAny_pure ⟨plainId_quiet F.plain_max_loop _, ?_⟩
      obtain ⟨c', hc'⟩ : ∃ c', (h'.update S (Obj.mapSeq fun _ => #[v, v])).get? S = some { cls := .type "list", data := .seq #[v, v] c' } := ⟨_, PySem.IsL.update hs' (fun _ => #[v, v])⟩
      refine ih (j + 1) _ v c' (by lia) (by lia) ?_ (by rw [hab]; exact pv) hc' fun v2 h2 tk2 p2 k2 => ?_
      · exact W.frame (j + 2) h' _ st' fun b hb' o e => (Heap.get?_update_other h' (Obj.mapSeq fun _ => #[v, v]) (fun z => hS (by rw [z]; exact hb'))).trans e
      · exact q v2 h2 tk2 p2 fun b o hb' hbS e => k2 b o hb' hbS ((Heap.get?_update_other h' (Obj.mapSeq fun _ => #[v, v]) (Ne.symm hbS)).trans (hk' b o hb' e))
theorem maxLoopD0 {prog : Program} {w : World} {A : Around} {R : Result → Shared → Prop} {I : Addr} {fp wr : List Addr} {n : Nat} {P : Nat → Value → Prop} {St : Nat → Heap → Prop} (W : Walks prog w A.in1 I fp wr n P St) (bt : Nat → Nat → Bool) (hc : CmpOf prog w A.in1 .Gt P bt) (S : Addr) (hS : S ∉ fp) (x : Str) (d : Value) (s : Shared) (c : Nat) (hst : St 0 s.heap) (hs : s.heap.get? S = some { cls := .type "list", data := .seq #[] c })
    (q0 : n = 0 → ∀ (h' : Heap) (tk : Nat), (∀ (b : Addr) (o : Obj), b ∉ wr → b ≠ S → s.heap.get? b = some o → h'.get? b = some o) → R (.ok (.ret d)) { s with heap := h', toks := tk })
    (q : 0 < n → ∀ (v : Value) (h' : Heap) (tk : Nat), P (argBest bt (n - 1)) v → (∀ (b : Addr) (o : Obj), b ∉ wr → b ≠ S → s.heap.get? b = some o → h'.get? b = some o) → R (.ok (.ret v)) { s with heap := h', toks := tk }) :
    codeAny (model prog w) A (Code.builtin "max.loop" { pos := [.ref I, .none, .ref S], kw := [(x, d)] }) R s := by
  have hSw : S ∉ wr := fun h => hS (W.sub S h)
  refine codeAny_builtin F.entry_max_loop ?_
  rw [Around.under_plainId F.plain_max_loop]
  refine wpAny_bind (wpAny_seqItems hs rfl ?_)
  by_cases hn : n = 0
  · refine wpAny_bind (wpAny_tryCatch (W.done s _ _ (hn ▸ hst) fun h' tk hk' => ?_))
    refine wpAny_bind (wpAny_rule ?_)
    refine wpAny_pure ?_
    exact q0 hn h' tk fun b o hb _ e => hk' b o hb e
  · refine wpAny_bind (wpAny_tryCatch (W.item 0 s _ _ (by lia) hst fun v h' tk pv st' hk' => ?_))
    refine wpAny_bind (wpAny_pure ?_)
    have hs' := hk' S _ hSw hs
    refine wpAny_bind (wpAny_updateSeq hs' rfl ?_)
    refine wpAny_pure ⟨plainId_quiet F.plain_max_loop _, ?_⟩
    refine maxLoopD W bt hc S hS _ (n - 1) 0 _ v _ rfl (by lia) ?_ pv (PySem.IsL.update hs' (fun _ => #[v, v])) fun v2 h2 tk2 p2 k2 => ?_
    · exact W.frame 1 h' _ st' fun b hb' o e => (Heap.get?_update_other h' (Obj.mapSeq fun _ => #[v, v]) (fun z => hS (by rw [z]; exact hb'))).trans e
    · exact q (by lia) v2 h2 tk2 p2 fun b o hb' hbS e => k2 b o hb' hbS ((Heap.get?_update_other h' (Obj.mapSeq fun _ => #[v, v]) (Ne.symm hbS)).trans (hk' b o hb' e))
theorem args_maxD (a v : Value) : argsOk "max" { pos := [a], kw := [("default", v)] } := by with_unfolding_all rfl
theorem call_maxD {prog : Program} {w : World} {A : Around} {E : Value → Shared → Prop} {s : Shared} {l : Addr} {d : Value} {Q : Value → Shared → Prop} {I : Addr} {fp wr : List Addr} {n : Nat} {P : Nat → Value → Prop} {St : Nat → Heap → Prop} (bt : Nat → Nat → Bool) (items : Array Value) (hl : s.heap.IsList l items) (hI : I = s.heap.objs.size)
    (W : Walks prog w A.in1 I fp wr n P St) (hfp : ∀ b ∈ fp, b < (s.heap.push { cls := .type "list_iterator", data := .fields #[.ref l, .int 0 0] }).objs.size) (hc : CmpOf prog w A.in1 .Gt P bt)
    (hst : St 0 (s.heap.push { cls := .type "list_iterator", data := .fields #[.ref l, .int 0 0] }))
    (q0 : n = 0 → ∀ (h' : Heap) (tk : Nat), (∀ (b : Addr) (o : Obj), b ∉ wr → s.heap.get? b = some o → h'.get? b = some o) → Q d { s with heap := h', toks := tk })
    (q : 0 < n → ∀ (v : Value) (h' : Heap) (tk : Nat), P (argBest bt (n - 1)) v → (∀ (b : Addr) (o : Obj), b ∉ wr → s.heap.get? b = some o → h'.get? b = some o) → Q v { s with heap := h', toks := tk }) :
    wpAny (model prog w) A (call (.builtin "max") [.ref l] [("default", d)]) Q E s := by
  refine kmb_tree F.kind_max F.plain_max F.entry_max (args_maxD _ _) ?_
  refine wpAny_bind (wpAny_of_eq (show Builtin.Builtins.bindParams "max" ["key", "default"] 0 { kw := [("default", d)] } = pure [none, some d] by with_unfolding_all rfl) ?_)
  refine wpAny_bind (wpAny_pure ?_)
  refine wpAny_bind (wpAny_pyIter_list hl ?_)
  refine wpAny_bind (wpAny_newObj_type ?_)
  refine wpAny_pure ⟨plainId_quiet F.plain_max_loop _, ?_⟩
  subst hI
  rw [show (toString "max" ++ toString ".loop") = "max.loop" from by decide]
  have old : ∀ (b : Addr) (o : Obj), s.heap.get? b = some o → b ≠ (s.heap.push { cls := .type "list_iterator", data := .fields #[.ref l, .int 0 0] }).objs.size ∧ ((s.heap.push { cls := .type "list_iterator", data := .fields #[.ref l, .int 0 0] }).push { cls := .type "list", data := .seq #[] }).get? b = some o := fun b o e => by
    have e1 := Heap.get?_push_of_some { cls := .type "list_iterator", data := .fields #[.ref l, .int 0 0] } e
    exact ⟨Nat.ne_of_lt (Heap.lt_size e1), Heap.get?_push_of_some _ e1⟩
  refine maxLoopD0 W bt hc (s.heap.push { cls := .type "list_iterator", data := .fields #[.ref l, .int 0 0] }).objs.size (fun h => Nat.lt_irrefl _ (hfp _ h)) "default" d _ 0 ?_ (Heap.get?_push_size _ rfl) ?_ ?_
  · exact W.frame 0 _ _ hst fun b _ o e => Heap.get?_push_of_some _ e
  · exact fun hn h' tk hk => q0 hn h' tk fun b o hb e => hk b o hb (old b o e).1 (old b o e).2
  · exact fun hn v h' tk pv hk => q hn v h' tk pv fun b o hb e => hk b o hb (old b o e).1 (old b o e).2
end L3
set_option Elab.async false
set_option linter.all false
set_option maxRecDepth 100000
set_option maxHeartbeats 4000000
set_option autoImplicit false
namespace L3
open PySem PySem.Spec L2
open PyProof.Rows hiding St
noncomputable def mxD (d : Int) : List Int → Int
  | [] => d
  | a :: r => r.foldl max a
theorem mx_fold : ∀ (r : List Int) (a : Int), (r.foldl max a = a ∨ r.foldl max a ∈ r) ∧ a ≤ r.foldl max a ∧ ∀ x ∈ r, x ≤ r.foldl max a
  | [], a => ⟨.inl rfl, Int.le_refl a, by simp⟩
  | b :: r, a => by
    obtain ⟨h1, h2, h3⟩ := mx_fold r (max a b)
    rw [List.foldl_cons]
    refine ⟨?_, by lia, fun x hx => ?_⟩
    · rcases h1 with h | h
      · rw [h]
        by_cases hab : a ≤ b
        · right; rw [Int.max_eq_right hab]; exact List.mem_cons_self
        · left; exact Int.max_eq_left (by lia)
      · exact .inr (List.mem_cons_of_mem _ h)
    · rcases List.mem_cons.mp hx with e | e
      · rw [e]; lia
      · exact h3 x e
theorem mx_is {d M : Int} {ns : List Int} (hm : M ∈ ns) (hu : ∀ a ∈ ns, a ≤ M) : mxD d ns = M := by
  cases ns with
  | nil => cases hm
  | cons a r =>
    obtain ⟨h1, h2, h3⟩ := mx_fold r a
    show r.foldl max a = M
    have l1 : r.foldl max a ≤ M := by
      rcases h1 with h | h
      · rw [h]; exact hu a List.mem_cons_self
      · exact hu _ (List.mem_cons_of_mem _ h)
    have l2 : M ≤ r.foldl max a := by
      rcases List.mem_cons.mp hm with e | e
      · rw [e]; exact h2
      · exact h3 M e
    lia
section
variable {X : Cx} {E : XK} {e : Expr} {fe : DS → M DV} {pos p : Pos}
noncomputable def gMaxD (d : Int) (x : DV) : M DV := bd (op (asL x)) fun ys => bd (op (intsL ys)) fun ns => rt (.d (.int (mxD d ns)))
noncomputable def gMaxL (d : Int) (xs : List DV) : M DV := match xs with
  | [x] => gMaxD d x
  | _ => none
noncomputable def eMaxD (d : Int) (fr : DS → M (List DV)) (δ : DS) : M DV := bd (fr δ) (gMaxL d)
theorem maxD_run {pins : List (Addr × Obj)} {s : Shared} {σ : St} {O P : List Addr} {H₀ H : Hp} {x : DV} {v : V} {u : Value} {d : Int} {t : Tok} {r : Except Value DV} {Q : VK} (hc : X.calm = true) (I : Inv X pins σ H s) (rx : RE O P H₀ H x v) (rv : RelV v u) (e : gMaxD d x = some r) (q : Fn E O P H₀ H Q r) :
    wpAny (model X.prog X.w) X.A (call (.builtin "max") [u] [("default", .int d t)]) (EP X pins σ Q) X.xe s := by
  unfold gMaxD at e
  obtain ⟨ys, e1, e2⟩ := bd_op e
  obtain ⟨ns, e3, e4⟩ := bd_op e2
  cases e4
  obtain ⟨a, ws, rfl, ha, l⟩ := rx.list e1
  cases rv
  have hys := intsL_get e3
  subst hys
  obtain ⟨its, ri, pl, hz⟩ := I.list (SqL.of ha)
  obtain ⟨ps, hits, hns⟩ := vals_ints l ri
  have hlist := pl.isList
  have hlt : a < s.heap.objs.size := by obtain ⟨_, e', _⟩ := pl.isList; exact Heap.lt_size e'
  have hlen : its.length = ns.length := by rw [hits, ← hns]; simp
  have hat : ∀ (i : Nat) (v : Value), its.toArray[i]? = some v → ∃ t, v = .int (ns.getD i 0) t := fun i v h => by
    have h' : its[i]? = some v := by rw [← h]; simp
    rw [hits, List.getElem?_map] at h'
    cases ep : ps[i]? with
    | none => rw [ep] at h'; cases h'
    | some p =>
      rw [ep] at h'
      cases h'
      refine ⟨p.2, ?_⟩
      have : ns.getD i 0 = p.1 := by rw [← hns, List.getD_eq_getElem?_getD, List.getElem?_map, ep]; rfl
      rw [this]
  have keepB : ∀ (h' : Heap) (tk : Nat), (∀ (b : Addr) (o : Obj), b ∉ [s.heap.objs.size] → s.heap.get? b = some o → h'.get? b = some o) → Inv X pins σ H { s with heap := h', toks := tk } := fun h' tk hk => I.kept (t' := tk) fun b ob eb => hk b ob (fun hm => by
    rw [List.mem_singleton.mp hm] at eb
    exact Nat.lt_irrefl _ (Heap.lt_size eb)) eb
  refine call_maxD (I := s.heap.objs.size) (fun i j => decide (ns.getD i 0 > ns.getD j 0)) its.toArray hlist rfl (Walks.list (A := X.A.in1) (I.ok.hd hc) _ a (Nat.ne_of_lt hlt) its.toArray) (fun b hb => ?_) (CmpOf.ints_gt (fun i => ns.getD i 0) hat) ⟨⟨_, Heap.get?_push_size _ rfl, rfl, rfl⟩, hlist.push _⟩ (fun hn h' tk hk => ?_) (fun hn v h' tk pv hk => ?_)
  · have hsz : (s.heap.push { cls := .type "list_iterator", data := .fields #[.ref a, .int 0 0] }).objs.size = s.heap.objs.size + 1 := by unfold Heap.push; simp
    rw [hsz]
    rcases List.mem_cons.mp hb with z | z
    · rw [z]; exact Nat.lt_succ_self _
    · rw [List.mem_singleton.mp z]; exact Nat.lt_succ_of_lt hlt
  · have hn' : ns = [] := List.eq_nil_of_length_eq_zero (by rw [← hlen, ← List.size_toArray]; exact hn)
    subst hn'
    exact ⟨.int _, H, keepB h' tk hk, ⟨_, rfl⟩, q _ H (Same.refl H) (.int _)⟩
  · obtain ⟨tt, rfl⟩ := hat _ v pv
    obtain ⟨b1, b2⟩ := argBest_gt (fun i => ns.getD i 0) (its.toArray.size - 1)
    have hsz : its.toArray.size = ns.length := by rw [List.size_toArray]; exact hlen
    rw [hsz] at b1 b2 hn ⊢
    have hM : mxD d ns = ns.getD (argBest (fun i j => decide (ns.getD i 0 > ns.getD j 0)) (ns.length - 1)) 0 := by
      refine mx_is ?_ fun a ha' => ?_
      · rw [List.getD_eq_getElem?_getD, List.getElem?_eq_getElem (by lia)]
        exact List.getElem_mem _
      · obtain ⟨i, hi, rfl⟩ := List.getElem_of_mem ha'
        have := b2 i (by lia)
        rw [List.getD_eq_getElem?_getD, List.getElem?_eq_getElem hi] at this
        exact this
    refine ⟨.int _, H, keepB h' tk hk, ⟨_, rfl⟩, ?_⟩
    rw [← hM]
    exact q _ H (Same.refl H) (.int _)
theorem px_maxD {d : Int} {j : Nat} {p2 p3 : Pos} {fr : DS → M (List DV)} (hc : X.calm = true) (hm : X.mg "max" = none) (ha : PAs X E [e] fr) (hg : Gl X "max" := by rfl)
    (h1 : backTo pos (starEach [e] X.env) = (false, eval e X.env) :: backTo pos (starEach [] X.env) := by rfl) (h2 : (backTo pos (starEach [e] X.env)).any (fun x => x.1) = false := by rfl) : PX X E (.Call (.Name "max" p) [e] [⟨some "default", .Constant (.int d) j p2, p3⟩] pos) (eMaxD d fr) := by
  intro pins s σ H Q I h
  refine wpAny_Call_Name_kw (ld_blt I hg hm bt_max ?_)
  refine callWith_kw (thn (ha pos pins s σ H (fun vs H1 => ∃ O P H₀ x v r, vs = [v] ∧ RE O P H₀ H1 x v ∧ gMaxD d x = some r ∧ Fn E O P H₀ H1 Q r) I ?_) fun us s1 ⟨vs, H1, I1, r1, O, P, H₀, x, v, r, ev, rx, e1, q⟩ => ?_) h1 h2
  · refine tA_bd (g := fun _ => gMaxL d) h fun O P δ xs r vs H1 rs rs1 s1 rx e q => ?_
    unfold gMaxL at e
    split at e
    · rename_i x
      cases rx with
      | cons r1 rr =>
        cases rr
        exact ⟨O, P, H, x, _, r, rfl, r1, e, q⟩
    · cases e
  · subst ev
    obtain ⟨u, rfl, ru⟩ := vals1 r1
    refine wpAny_evalAll_cons ?_
    have hk := pe_int (X := X) (i := d) (j := j) (pos := p2) pins s1 σ H1 (fun v H2 => v = .int d ∧ H2 = H1) I1 ⟨rfl, rfl⟩
    refine wpAny_bind (thn hk fun w s2 ⟨vw, H2, I2, rw2, ew, eH⟩ => ?_)
    refine wpAny_bind (wpAny_standAt (wpAny_pure ?_))
    subst ew
    subst eH
    obtain ⟨t, rfl⟩ := rw2
    refine wpAny_evalAll_nil ?_
    exact maxD_run hc I2 rx ru e1 q
end
end L3
set_option Elab.async false
set_option linter.all false
set_option maxRecDepth 100000
set_option maxHeartbeats 4000000
set_option autoImplicit false
namespace L3
open PySem PySem.Spec L2
open PyProof.Rows hiding St
theorem RpL.set' {Z : List Addr} {H : Hp} {d : D} {v : V} (r : Rp Z H d v) : ∀ {ds : List D} {vs : List V} (j : Nat), RpL Z H ds vs → RpL Z H (ds.set j d) (vs.set j v)
  | _, _, _, .nil => .nil
  | _, _, 0, .cons _ l => .cons r l
  | _, _, j + 1, .cons q l => .cons q (RpL.set' r j l)
theorem RpL.dropLast' {Z : List Addr} {H : Hp} : ∀ {ds : List D} {vs : List V}, RpL Z H ds vs → RpL Z H ds.dropLast vs.dropLast
  | _, _, .nil => .nil
  | _, _, .cons _ .nil => .nil
  | _, _, .cons q (.cons q2 l) => .cons q (RpL.dropLast' (.cons q2 l))
theorem RpL.erase' {Z : List Addr} {H : Hp} : ∀ {ds : List D} {vs : List V} (j : Nat), RpL Z H ds vs → RpL Z H (ds.eraseIdx j) (vs.eraseIdx j)
  | _, _, _, .nil => .nil
  | _, _, 0, .cons _ l => l
  | _, _, j + 1, .cons q l => .cons q (RpL.erase' j l)
theorem upd_upd {H : Hp} {a : Addr} {x y : HO} : upd (upd H a x) a y = upd H a y := by
  funext b
  by_cases h : b = a
  · subst h; rw [zjj, zjj]
  · rw [zqq h, zqq h, zqq h]
section
variable {X : Cx} {E : XK} {o e e1 e2 c : Expr} {f fk fe f1 f2 : DS → M DV} {gc : DS → M Bool} {F : DS → M Out} {pos : Pos}
noncomputable def fPut (i : Nat) (fk fe : DS → M DV) (δ : DS) : M Out := match δ[i]? with
  | some (some (.own xs)) => bd (fe δ) fun x => bd (op (asD x)) fun d => bd (fk δ) fun y => bd (op (asInt y)) fun k => bd (op (ixN xs.length k)) fun j => rt (.nx (δ.set i (some (.own (xs.set j d)))))
  | _ => none
theorem st_put {i : Nat} {ik : Expr} {p2 : Pos} (ho : PE X o (tVar i)) (hk : PX X E ik fk) (he : PX X E e fe)
    (ha : ∀ v, assign (.Subscript o ik p2) X.env v = (do
      let ov ← holding [v] (eval o X.env)
      let iv ← holding [v, ov] (eval ik X.env)
      standAt p2
      holding [v, ov, iv] (setItem ov iv v)
      release [v, ov, iv] []) := by intro _; rfl)
    (hs : swapsWithSole [.Subscript o ik p2] e pos.line X.env = pure false := by rfl) (hw : swappedStores [.Subscript o ik p2] e X.env = pure none := by rfl)
    (h1 : (assignEach [.Subscript o ik p2] X.env).map (·.2) = [assign (.Subscript o ik p2) X.env] := by rfl) : PSt X E (.Assign [.Subscript o ik p2] e pos) (fPut i fk fe) :=
  PS.mono (ps_asg he (pg_sub ho hk set_list ha) hs hw h1) fun T σ H q => by
    obtain ⟨O, P, δ, r, rs, e, q⟩ := q
    unfold fPut at e
    split at e
    · rename_i xs ei
      obtain ⟨v, ev, _, a, vs, rfl, hP, ha, l⟩ := rs.at' i _ ei
      rcases zze e with ⟨x, e1, e2⟩ | ⟨cx, e1, e2⟩
      · obtain ⟨d, e3, e4⟩ := bd_op e2
        refine ⟨O, P, δ, .ok x, rs, e1, fun u H1 s1 rx => ⟨.ref a, ev, ?_⟩⟩
        have ru := rx.data rs.dom e3
        rcases zze e4 with ⟨y, e5, e6⟩ | ⟨cx, e5, e6⟩
        · obtain ⟨k, e7, e8⟩ := bd_op e6
          obtain rfl := asInt_get e7
          obtain ⟨j, hj, e9⟩ := bd_op e8
          cases e9
          refine ⟨O, P, δ, _, rs.same s1, e5, fun w H2 s2 ry => ?_⟩
          have ry' : Rp (P ++ O) H2 (.int k) w := ry
          cases ry'
          have s12 := s1.trans s2
          have l1 : RpL (P ++ O) H2 (xs.set j d) (vs.set j u) := (l.kp (.same s12)).set' (ru.kp (.same s2)) j
          obtain ⟨k', rs'⟩ := (rs.same s12).grow ei ev l1 hP
          exact ⟨a, vs, k, j, rfl, rfl, s12 a _ ha, by rw [← l.length]; exact hj, q σ _ P ((Kp.same s12).trans k') rs'⟩
        · subst e6
          exact ⟨O, P, δ, .error cx, rs.same s1, e5, fun dx H' s => q dx H' P (.same (s1.trans s))⟩
      · subst e2
        exact ⟨O, P, δ, .error cx, rs, e1, fun dx H' s => q dx H' P (.same s)⟩
    · cases e
noncomputable def fPop (i : Nat) (δ : DS) : M Out := match δ[i]? with
  | some (some (.own xs)) => if xs.length = 0 then none else rt (.nx (δ.set i (some (.own xs.dropLast))))
  | _ => none
theorem st_pop {i : Nat} {apos cpos : Pos} (ho : PE X o (tVar i)) (hbase : attributeBase o "pop" X.env (eval o X.env) = eval o X.env := by rfl) (hline : (apos.endLine == cpos.line) = true := by rfl)
    (hsw : swapsWith (.Call (.Attribute o "pop" apos) [] [] cpos) none pos.line X.env = pure false := by rfl) : PSt X E (.Expr (.Call (.Attribute o "pop" apos) [] [] cpos) pos) (fPop i) :=
  PS.mono (ps_expr (pe_bm0 PySem.F.plainAttrs_list PySem.F.slot_list_pop PySem.F.type_list_pop mt_pop ho hbase hline) hsw) fun T σ H q => by
    obtain ⟨O, P, δ, r, rs, e, q⟩ := q
    unfold fPop at e
    split at e
    · rename_i xs ei
      split at e
      · cases e
      · rename_i hn
        cases e
        obtain ⟨v, ev, _, a, vs, rfl, hP, ha, l⟩ := rs.at' i _ ei
        obtain ⟨k', rs'⟩ := rs.grow ei ev l.dropLast' hP
        have hl := l.length
        refine ⟨.ref a, ev, .inl ⟨rfl, _, SqL.of ha⟩, a, vs, vs[vs.length - 1]'(by lia), rfl, rfl, ha, List.getElem?_eq_getElem _, q σ _ P k' rs'⟩
    · cases e
noncomputable def rInsert : V → List V → Hp → VK → Prop := fun x vs H Q => ∃ l xs i y, x = .ref l ∧ vs = [.int i, y] ∧ H l = some (.lst xs) ∧ 0 ≤ i ∧ i < 2 ^ 63 ∧ xs.length < sizeLine ∧ Q .non (upd H l (.lst (xs.take (min i.toNat xs.length) ++ y :: xs.drop (min i.toNat xs.length))))
theorem Vals.take' : ∀ {xs : List V} {us : List Value} (n : Nat), Vals xs us → Vals (xs.take n) (us.take n)
  | _, _, 0, _ => .nil
  | _, _, _ + 1, .nil => .nil
  | _, _, n + 1, .cons r l => .cons r (Vals.take' n l)
theorem Vals.drop' : ∀ {xs : List V} {us : List Value} (n : Nat), Vals xs us → Vals (xs.drop n) (us.drop n)
  | _, _, 0, l => l
  | _, _, _ + 1, .nil => .nil
  | _, _, n + 1, .cons r l => Vals.drop' n l
theorem mt_insert : MtM X "list.insert" rInsert := by
  intro pins s σ H x vs v us Q I rx rv h
  obtain ⟨l, xs, i, y, rfl, rfl, hH, h0, h63, hz, q⟩ := h
  cases rx
  obtain ⟨u1, u2, rfl, r1, r2⟩ := rv.two
  obtain ⟨t, rfl⟩ := r1
  obtain ⟨z, its, n, r, hl, e⟩ := I.lstM hH
  refine call_meets F.slot_list_insert ⟨_, e, rfl⟩ F.entry_list_insert (F.args_list_insert_3 _ _ _)
    (AutoSeq1.list_insert_list_int_val_1 l its.toArray n i t u2 (by rw [fitsIndex_both (by lia) h63]; decide) (by rw [List.size_toArray]; lia)) ⟨e, ?_⟩
  refine ⟨.non, _, I.lset (its' := its.take (min i.toNat xs.length) ++ u2 :: its.drop (min i.toNat xs.length)) hH e ?_ (L2.Vals.append (Vals.take' _ r) (.cons r2 (Vals.drop' _ r))) ?_, rfl, q⟩
  · have hneg : ¬ (i < 0) := by lia
    simp only [List.size_toArray, if_neg hneg, ← hl]
    apply Array.toList_inj.mp
    simp
    exact List.take_of_length_le (by rw [List.length_drop, ← hl]; lia)
  · simp; lia
noncomputable def insP (xs : List D) (a b : Nat) : Option (List D) := match xs[b]? with
  | some d => some ((xs.eraseIdx b).take (min a (xs.eraseIdx b).length) ++ d :: (xs.eraseIdx b).drop (min a (xs.eraseIdx b).length))
  | none => none
noncomputable def asNat : DV → Option Nat
  | .d (.int i) => if 0 ≤ i ∧ i < 1000000 then some i.toNat else none
  | _ => none
theorem asNat_get {x : DV} {n : Nat} (h : asNat x = some n) : x = .d (.int (n : Int)) ∧ n < 1000000 := by
  cases x with
  | d y =>
    cases y with
    | int i =>
      unfold asNat at h
      simp only at h
      split at h
      · cases h
        rename_i hc
        refine ⟨?_, by lia⟩
        rw [show ((i.toNat : Nat) : Int) = i by lia]
      · cases h
    | _ => cases h
  | _ => cases h
noncomputable def fInsP (i : Nat) (f1 f2 : DS → M DV) (δ : DS) : M Out := match δ[i]? with
  | some (some (.own xs)) => bd (f1 δ) fun x => bd (op (asNat x)) fun a => bd (f2 δ) fun y => bd (op (asNat y)) fun b => if xs.length ≤ 1000000 then bd (op (insP xs a b)) fun ys => rt (.nx (δ.set i (some (.own ys)))) else none
  | _ => none
theorem st_insP {i : Nat} {o2 : Expr} {apos cpos apos2 cpos2 : Pos} (ho : PE X o (tVar i)) (ho2 : PE X o2 (tVar i)) (h1 : PX X E e1 f1) (h2 : PX X E e2 f2)
    (hbase2 : attributeBase o2 "pop" X.env (eval o2 X.env) = eval o2 X.env := by rfl)
    (hfew2 : ((backTo cpos2 (starEach [e2] X.env)).all (fun x => !x.1) && (backToKw cpos2 (keywordEach [] X.env)).all (fun x => x.1.isSome)
      && decide ([e2].length + ([] : List Keyword).length + (if ([] : List Keyword).isEmpty then 0 else 1) < 30)) = true := by rfl)
    (hline2 : (apos2.endLine == cpos2.line) = true := by rfl) (hs2 : starEach [e2] X.env = (false, eval e2 X.env) :: starEach [] X.env := by rfl) (hplain2 : (backTo cpos2 (starEach [] X.env)).any (·.1) = false := by rfl)
    (hbase : attributeBase o "insert" X.env (eval o X.env) = eval o X.env := by rfl)
    (hfew : ((backTo cpos (starEach [e1, .Call (.Attribute o2 "pop" apos2) [e2] [] cpos2] X.env)).all (fun x => !x.1) && (backToKw cpos (keywordEach [] X.env)).all (fun x => x.1.isSome)
      && decide ([e1, .Call (.Attribute o2 "pop" apos2) [e2] [] cpos2].length + ([] : List Keyword).length + (if ([] : List Keyword).isEmpty then 0 else 1) < 30)) = true := by rfl)
    (hline : (apos.endLine == cpos.line) = true := by rfl) (hs : starEach [e1, .Call (.Attribute o2 "pop" apos2) [e2] [] cpos2] X.env = (false, eval e1 X.env) :: starEach [.Call (.Attribute o2 "pop" apos2) [e2] [] cpos2] X.env := by rfl) (hs' : starEach [.Call (.Attribute o2 "pop" apos2) [e2] [] cpos2] X.env = (false, eval (.Call (.Attribute o2 "pop" apos2) [e2] [] cpos2) X.env) :: starEach [] X.env := by rfl) (hplain : (backTo cpos (starEach [.Call (.Attribute o2 "pop" apos2) [e2] [] cpos2] X.env)).any (·.1) = false := by rfl)
    (hsw : swapsWith (.Call (.Attribute o "insert" apos) [e1, .Call (.Attribute o2 "pop" apos2) [e2] [] cpos2] [] cpos) none pos.line X.env = pure false := by rfl) :
    PSt X E (.Expr (.Call (.Attribute o "insert" apos) [e1, .Call (.Attribute o2 "pop" apos2) [e2] [] cpos2] [] cpos) pos) (fInsP i f1 f2) :=
  PS.mono (ps_expr (pe_bm PySem.F.plainAttrs_list PySem.F.slot_list_insert PySem.F.type_list_insert mt_insert ho (pa_cons h1 (pa_cons (pe_bm PySem.F.plainAttrs_list PySem.F.slot_list_pop PySem.F.type_list_pop mt_popAt ho2 (pa_cons h2 pa_nil hs2) hbase2 hfew2 hline2 hs2 hplain2) pa_nil hs') hs) hbase hfew hline hs hplain) hsw) fun T σ H q => by
    obtain ⟨O, P, δ, r, rs, e, q⟩ := q
    unfold fInsP at e
    split at e
    · rename_i xs ei
      obtain ⟨v, ev, _, l, vs, rfl, hP, ha, hl⟩ := rs.at' i _ ei
      refine ⟨.ref l, ev, .inl ⟨rfl, _, SqL.of ha⟩, ?_⟩
      rcases zze e with ⟨x, e1, e2⟩ | ⟨cx, e1, e2⟩
      · obtain ⟨a, e3, e4⟩ := bd_op e2
        obtain ⟨rfl, ha'⟩ := asNat_get e3
        refine ⟨O, P, δ, .ok _, rs, e1, fun u H1 s1 rx => ⟨.ref l, ev, .inl ⟨rfl, _, SqL.of (s1 l _ ha)⟩, ?_⟩⟩
        have rx' : Rp (P ++ O) H1 (.int (a : Int)) u := rx
        cases rx'
        rcases zze e4 with ⟨y, e5, e6⟩ | ⟨cx, e5, e6⟩
        · obtain ⟨b, e7, e8⟩ := bd_op e6
          obtain ⟨rfl, hb'⟩ := asNat_get e7
          split at e8
          · rename_i hz
            obtain ⟨ys, e9, e10⟩ := bd_op e8
            cases e10
            refine ⟨O, P, δ, .ok _, rs.same s1, e5, fun w H2 s2 ry => ?_⟩
            have ry' : Rp (P ++ O) H2 (.int (b : Int)) w := ry
            cases ry'
            have s12 := s1.trans s2
            have l2 := hl.kp (.same s12)
            unfold insP at e9
            cases hx : xs[b]? with
            | none => rw [hx] at e9; cases e9
            | some d =>
              rw [hx] at e9
              cases e9
              obtain ⟨y, hy, ry⟩ := l2.get hx
              have hbl : b < xs.length := (List.getElem?_eq_some_iff.mp hx).1
              have hlen := l2.length
              have l3 := l2.erase' b
              have hlen3 := l3.length
              have hle := len_erase xs b
              have l4 : RpL (P ++ O) H2 ((xs.eraseIdx b).take (min a (xs.eraseIdx b).length) ++ d :: (xs.eraseIdx b).drop (min a (xs.eraseIdx b).length)) ((vs.eraseIdx b).take (min a (vs.eraseIdx b).length) ++ y :: (vs.eraseIdx b).drop (min a (vs.eraseIdx b).length)) := by
                rw [← hlen3]
                exact (l3.take _).append (.cons ry (l3.drop _))
              obtain ⟨k', rs'⟩ := (rs.same s12).grow ei ev l4 hP
              have hline' : (xs.eraseIdx b).length < sizeLine := Nat.lt_of_le_of_lt (Nat.le_trans hle hz) (by rw [sizeLine_eq]; decide)
              refine ⟨l, vs, (b : Int), b, y, rfl, rfl, s12 l _ ha, by lia, by lia, PySem.StrLaws.seqIndex_nonneg (by lia) (by rw [← hlen]; lia), hy, ?_⟩
              refine ⟨l, vs.eraseIdx b, (a : Int), y, rfl, rfl, zjj, by lia, by lia, by rw [← hlen3]; exact hline', ?_⟩
              rw [upd_upd]
              exact q σ _ P ((Kp.same s12).trans k') rs'
          · cases e8
        · subst e6
          exact ⟨O, P, δ, .error cx, rs.same s1, e5, fun dx H' s => q dx H' P (.same (s1.trans s))⟩
      · subst e2
        exact ⟨O, P, δ, .error cx, rs, e1, fun dx H' s => q dx H' P (.same s)⟩
    · cases e
noncomputable def whO (W : DS → M Out) : Out → M Out
  | .nx δ => W δ
  | .ct δ => W δ
  | .bk δ => rt (.nx δ)
  | .rt x => rt (.rt x)
noncomputable def fWh (gc : DS → M Bool) (F : DS → M Out) : Nat → DS → M Out
  | 0, _ => none
  | n + 1, δ => bd (gc δ) fun k => if k = true then bd (F δ) (whO (fWh gc F n)) else rt (.nx δ)
theorem st_while (n : Nat) {body : List Stmt} (hp : PassesOwn (model X.prog X.w) X.A X.env X.xe) (hc : PB X E c gc) (hb : PSd X E body F) : PSt X E (.While c body [] pos) (fWh gc F n) :=
  PS.mono (ps_while hp hc hb) fun T σ H q => by
    refine ⟨fun m σ H => ∃ O P δ r, RS O P H σ δ ∧ fWh gc F m δ = some r ∧ FnS E O P H T r, ⟨n, q⟩, fun m σ H w => ?_⟩
    obtain ⟨O, P, δ, r, rs, e, q⟩ := w
    cases m with
    | zero => cases e
    | succ m =>
      unfold fWh at e
      rcases zze e with ⟨k, e1, e2⟩ | ⟨cx, e1, e2⟩
      · refine ⟨O, P, δ, .ok k, rs, e1, fun H1 s1 => ?_⟩
        cases k with
        | false =>
          cases e2
          exact iteF (q σ H1 P (.same s1) (rs.same s1))
        | true =>
          refine iteT ⟨fun σ' H' => ∃ O P δ r, RS O P H' σ' δ ∧ fWh gc F m δ = some r ∧ FnS E O P H' T r, fun σ' H' h => ⟨m, Nat.lt_succ_self m, h⟩, ?_⟩
          rw [if_pos rfl] at e2
          have q1 := q.on (Kp.same (Z := P) s1)
          rcases zze e2 with ⟨o, e3, e4⟩ | ⟨cx, e3, e4⟩
          · refine ⟨O, P, δ, .ok o, rs.same s1, e3, ?_⟩
            cases o with
            | nx δ' => exact fun σ' H' P' k' rs' => ⟨O, P', δ', r, rs', e4, q1.on k'⟩
            | ct δ' => exact fun σ' H' P' k' rs' => ⟨O, P', δ', r, rs', e4, q1.on k'⟩
            | bk δ' => cases e4; exact fun σ' H' P' k' rs' => q1 σ' H' P' k' rs'
            | rt x => cases e4; exact q1
          · subst e4
            exact ⟨O, P, δ, .error cx, rs.same s1, e3, q1⟩
      · subst e2
        exact ⟨O, P, δ, .error cx, rs, e1, fun dx H' s => q dx H' P (.same s)⟩
noncomputable def gLenT (xs : List DV) : M DV := match xs with
  | [.d (.str z)] => if z.length ≤ 1000000 then rt (.d (.int (z.length : Int))) else none
  | _ => none
theorem cv_lenT : CallV X E (.builtin "len") gLenT := CallV.of call_len_str fun O P H₀ H xs vs r Q hd hs rx e q => by
  unfold gLenT at e
  split at e
  · rename_i z
    split at e
    · rename_i hz
      cases e
      cases rx with
      | cons r1 rr =>
        cases rr
        have r1' : Rp (P ++ O) H (.str z) _ := r1
        cases r1'
        exact ⟨z, rfl, zjv hz, q _ H (Same.refl H) (.int _)⟩
    · cases e
  · cases e
theorem sub_two {js : List Nat} (δ : DS) (d : D) (δ1 : DS) (h : sTup 2 (sCons (zjq 0) (sCons (zjq 1) sNil)) d (subD 2 js δ) = some δ1) : Sub (subD 2 js δ) δ1 := by
  unfold sTup at h
  split at h
  · split at h
    · rename_i ds hl
      match ds, hl with
      | [a, b], _ =>
        cases h
        exact (sub_set (.inl rfl)).trans (sub_set (.inl rfl))
    · cases h
  · cases h
end
end L3
set_option Elab.async false
set_option linter.all false
set_option maxRecDepth 100000
set_option maxHeartbeats 1000000
set_option autoImplicit false
namespace LW
open PySem PySem.Spec L2 L3
noncomputable def good (m c : Int) : Bool := decide (3 ≤ m) && decide (m ≤ 13) && (decide (1 ≤ c) && decide (c ≤ 4))
noncomputable def eMkH (C CB : Addr) (fr : DS → M (List DV)) : DS → M DV := eCb (mkH C CB good "most" "colours") fr
noncomputable def F_is_tile (C : Addr) : DS → M Out := (fRet (eAnd (eCh gLeD gLeD (eC (.int 1)) (e2 gIx (eVar 1) (eC (.int 0))) (eFld C "most" (eVar 0))) (eCh gLeD gLtD (eC (.int 0)) (e2 gIx (eVar 1) (eC (.int 1))) (eFld C "colours" (eVar 0)))))
noncomputable def M_is_tile (C : Addr) : List DV → M DV := mir ["house", "tile"] (F_is_tile C)
noncomputable def F_is_in_order : DS → M Out := (fRet (eCb gAll (zzz (eComp 1 [0] (iR2 (zzz (eC (.int 1)) (zzz (eCb gLen (zzz (eVar 0) aNil)) aNil))) (zjq 0) bYes (e2 gLeD (e2 gIx (eVar 1) (e2 gSub (eVar 0) (eC (.int 1)))) (e2 gIx (eVar 1) (eVar 0)))) aNil)))
noncomputable def M_is_in_order : List DV → M DV := mir ["row"] (F_is_in_order)
noncomputable def F_is_hand (C : Addr) : DS → M Out := (fSq (fIf (bOr (fun δ => bd (e2 gGt (eCb gLen (zzz (eVar 1) aNil)) (eC (.int 12)) δ) tru) (bNot (fun δ => bd (eCh gLeD gLeD (eC (.int 0)) (eVar 2) (eC (.int 2)) δ) tru))) (fRet (eC (.bool false))) fNil) (fSq (fIf (bNot (fun δ => bd ((eCb gAll (zzz (eComp 1 [0, 1] (iLs (eVar 1)) (zjq 0) bYes (eAnd (eCb (zxg 2 (M_is_tile C)) (zzz (eVar 1) (zzz (eVar 0) aNil))) (e2 gLeD (eCnt (eVar 2) (eVar 0)) (eC (.int 2))))) aNil)) δ) tru)) (fRet (eC (.bool false))) fNil) (fRet (eCb (zxg 1 (M_is_in_order)) (zzz (eVar 1) aNil)))))
noncomputable def M_is_hand (C : Addr) : List DV → M DV := mir ["house", "hand", "jokers"] (F_is_hand C)
noncomputable def F__law_cell_at (K : PySem.W.Frag) : DS → M Out := (fSq (fIf (fun δ => bd (e2 gLtD (eVar 1) (eCb (gLenS K) (zzz (eVar 0) aNil)) δ) tru) (fRet (e2 (gIxS K) (eVar 0) (eVar 1))) fNil) (fRet (eC (.int 0))))
noncomputable def zzy (K : PySem.W.Frag) : List DV → M DV := mir ["script", "k"] (F__law_cell_at K)
noncomputable def F__law_mix : DS → M Out := (fSq (fSet 3 (eLst (zzz (eC (.int 48271)) (zzz (eC (.int 69621)) (zzz (eC (.int 16807)) (zzz (eC (.int 39373)) (zzz (eC (.int 30269)) (zzz (eC (.int 40014)) (zzz (eC (.int 40692)) (zzz (eC (.int 50021)) (zzz (eC (.int 61687)) (zzz (eC (.int 71993)) (zzz (eC (.int 83869)) (zzz (eC (.int 95561)) (zzz (eC (.int 30307)) aNil))))))))))))))) (fSq (fSet 4 (e2 gPlus (e2 gPlus (e2 gTimes (e2 gPlus (e2 gMod (eVar 0) (eC (.int 2147483647))) (eC (.int 12345))) (e2 gIx (eVar 3) (e2 gMod (eVar 1) (eC (.int 13))))) (e2 gTimes (eC (.int 977)) (eVar 1))) (e2 gTimes (eC (.int 7919)) (e2 gDiv (eVar 1) (eC (.int 13)))))) (fSq (fSet 4 (e2 gMod (eVar 4) (eC (.int 1000000007)))) (fRet (e2 gMod (e2 gDiv (e2 gMod (e2 gPlus (e2 gTimes (eVar 4) (eVar 4)) (e2 gTimes (eC (.int 48271)) (eVar 1))) (eC (.int 1000000007))) (eC (.int 7))) (eVar 2))))))
noncomputable def zzw : List DV → M DV := mir ["cell", "k", "many", "some", "stir"] (F__law_mix)
noncomputable def F__law_whole : DS → M Out := (fRet (eAnd (eIs "int" (eVar 0)) (eNot (eIs "bool" (eVar 0)))))
noncomputable def M__law_whole : List DV → M DV := mir ["found"] (F__law_whole)
noncomputable def F__law_house_by (K : PySem.W.Frag) : DS → M Out := (fSq (fSet 1 (eCb (zxg 2 (zzy K)) (zzz (eVar 0) (zzz (eC (.int 0)) aNil)))) (fRet (eTup (zzz (e2 gPlus (eC (.int 3)) (eCb (zxg 3 (zzw)) (zzz (eVar 1) (zzz (eC (.int 1)) (zzz (e2 gIx (eLst (zzz (eC (.int 4)) (zzz (eC (.int 4)) (zzz (eC (.int 4)) (zzz (eC (.int 11)) aNil))))) (eCb (zxg 3 (zzw)) (zzz (eVar 1) (zzz (eC (.int 2)) (zzz (eC (.int 4)) aNil))))) aNil))))) (zzz (e2 gPlus (eC (.int 1)) (eCb (zxg 3 (zzw)) (zzz (eVar 1) (zzz (eC (.int 3)) (zzz (eC (.int 4)) aNil))))) aNil)))))
noncomputable def M__law_house_by (K : PySem.W.Frag) : List DV → M DV := mir ["script", "cell"] (F__law_house_by K)
noncomputable def F__law_trimmed : DS → M Out := (fSq (fSet 2 (eLst aNil)) (fSq (fFor (iLs (eVar 0)) (zjq 3) (fIf (bAnd (fun δ => bd (e2 gLtD (eCnt (eVar 2) (eVar 3)) (eC (.int 2)) δ) tru) (fun δ => bd (e2 gLtD (eCb gLen (zzz (eVar 2) aNil)) (eVar 1) δ) tru)) (fApp 2 (eVar 3)) fNil)) (fRet (eCb gSrt (zzz (eVar 2) aNil)))))
noncomputable def zjz : List DV → M DV := mir ["tiles", "limit", "found", "tile"] (F__law_trimmed)
noncomputable def F__law_hand_by (K : PySem.W.Frag) : DS → M Out := (fSq (fSet 5 (eLst aNil)) (fSq (fFor (iR1 (zzz (eC (.int 3)) aNil)) (zjq 6) (fSq (fSet 7 (eCb (zxg 2 (zzy K)) (zzz (eVar 0) (zzz (e2 gPlus (eVar 1) (eVar 6)) aNil)))) (fSq (fTg (sTup 2 (sCons (zjq 8) (sCons (zjq 9) sNil))) (eTup (zzz (e2 gPlus (eC (.int 1)) (eCb (zxg 3 (zzw)) (zzz (eVar 7) (zzz (eC (.int 1)) (zzz (eVar 2) aNil))))) (zzz (eCb (zxg 3 (zzw)) (zzz (eVar 7) (zzz (eC (.int 2)) (zzz (eVar 3) aNil)))) aNil)))) (fSq (fSet 10 (e2 gPlus (eC (.int 2)) (eCb (zxg 3 (zzw)) (zzz (eVar 7) (zzz (eC (.int 3)) (zzz (eC (.int 4)) aNil)))))) (fSq (fIf (fun δ => bd (e2 (gEq false) (eCb (zxg 3 (zzw)) (zzz (eVar 7) (zzz (eC (.int 4)) (zzz (eC (.int 2)) aNil)))) (eC (.int 0)) δ) tru) (fSet 5 (e2 gPlus (eVar 5) (eComp 1 [9] (iR2 (zzz (eVar 8) (zzz (e2 gPlus (eCb gMin (zzz (eVar 2) (zzz (e2 gSub (e2 gPlus (eVar 8) (eVar 10)) (eC (.int 1))) aNil))) (eC (.int 1))) aNil))) (zjq 0) bYes (eTup (zzz (eVar 0) (zzz (eVar 1) aNil)))))) (fSet 5 (e2 gPlus (eVar 5) (eComp 1 [8, 7] (iR1 (zzz (eVar 3) aNil)) (zjq 0) (fun δ => bd (e2 gGt (eCb (zxg 3 (zzw)) (zzz (eVar 2) (zzz (e2 gPlus (eC (.int 10)) (eVar 0)) (zzz (eC (.int 4)) aNil)))) (eC (.int 0)) δ) tru) (eTup (zzz (eVar 1) (zzz (eVar 0) aNil))))))) (fIf (fun δ => bd (e2 (gEq false) (eCb (zxg 3 (zzw)) (zzz (eVar 7) (zzz (eC (.int 5)) (zzz (eC (.int 3)) aNil)))) (eC (.int 0)) δ) tru) (fApp 5 (eTup (zzz (e2 gPlus (eC (.int 1)) (eCb (zxg 3 (zzw)) (zzz (eVar 7) (zzz (eC (.int 6)) (zzz (eVar 2) aNil))))) (zzz (eCb (zxg 3 (zzw)) (zzz (eVar 7) (zzz (eC (.int 7)) (zzz (eVar 3) aNil)))) aNil)))) fNil)))))) (fSq (fIf (fun δ => bd (e2 (gEq false) (eCb gLen (zzz (eVar 5) aNil)) (eC (.int 0)) δ) tru) (fSet 5 (eLst (zzz (eTup (zzz (eC (.int 1)) (zzz (eC (.int 0)) aNil))) aNil))) fNil) (fSq (fIf (fun δ => bd (e2 (gEq false) (e2 gMod (eCb (zxg 2 (zzy K)) (zzz (eVar 0) (zzz (e2 gPlus (eVar 1) (eC (.int 3))) aNil))) (eC (.int 9))) (eC (.int 7)) δ) tru) (fRet (eLst aNil)) fNil) (fun δ => (fRet (eCb (zxg 2 (zjz)) (zzz (eVar 5) (zzz (e2 gPlus (eC (.int 1)) (e2 gMod (eCb (zxg 2 (zzy K)) (zzz (eVar 0) (zzz (e2 gPlus (eVar 1) (eC (.int 3))) aNil))) (eVar 4))) aNil)))) (frz 5 δ))))))
noncomputable def zje (K : PySem.W.Frag) : List DV → M DV := mir ["script", "start", "most", "colours", "limit", "tiles", "k", "cell", "number", "colour", "size"] (F__law_hand_by K)
end LW
set_option Elab.async false
set_option linter.all false
set_option maxRecDepth 100000
set_option maxHeartbeats 1000000
set_option autoImplicit false
namespace LW
open PySem PySem.Spec L2 L3
theorem ite_d (a b : Bool) : (if a = true then rt (DV.d (.bool b)) else rt (DV.d (.bool false))) = rt (.d (.bool (a && b))) := by cases a <;> rfl
theorem ite_b (a b : Bool) : (if a = true then rt b else rt false) = (rt (a && b) : M Bool) := by cases a <;> rfl
theorem ite_o (a b : Bool) : (if a = true then rt true else rt b) = (rt (a || b) : M Bool) := by cases a <;> rfl
theorem ite_e (a b : Bool) : (if a = true then rt (DV.d (.bool true)) else rt (DV.d (.bool b))) = rt (.d (.bool (a || b))) := by cases a <;> rfl
noncomputable def cellAt (ns : List Int) (k : Int) : Int := if k < (ns.length : Int) then (atI ns k).getD 0 else 0
theorem atI_some {α : Type} {xs : List α} {i : Int} (h0 : 0 ≤ i) (h1 : i < (xs.length : Int)) : ∃ x, atI xs i = some x := by
  unfold atI ixN
  rw [if_pos h0, if_pos h1]
  exact ⟨xs[i.toNat]'(by lia), by simp⟩
theorem gLenS_is (K : PySem.W.Frag) (ns : List Int) : gLenS K [.scr K ns] = rt (.d (.int ns.length)) := by
  unfold gLenS
  exact if_pos rfl
theorem gIxS_is (K : PySem.W.Frag) (ns : List Int) (i : Int) : gIxS K (.scr K ns) (.d (.int i)) = bd (op (atI ns i)) fun n => rt (.d (.int n)) := by
  unfold gIxS
  exact if_pos rfl
theorem m_cell (K : PySem.W.Frag) (ns : List Int) (k : Int) (h : 0 ≤ k) : zzy K [.scr K ns, .d (.int k)] = rt (.d (.int (cellAt ns k))) := by
  unfold zzy F__law_cell_at cellAt
  simp only [mir, dst, fSq, fSet, fRet, fIf, fNil, fTg, fDrop, fPar, eVar, eC, e2, zzz, aNil, eTup, eLst, eCb, zxg, L3.args_nil, zqd, zxe, zxk, zxq, zzc, zyk, zzd, Option.map_some, zye, bd_ok, zyw, zzb, zqa, zqc, zqe, zqy, zyc, zxh, res_d, zyy, zyj, zqb, zqv, zyq, zzh, zxx, tru_b, bNot, bAnd, bOr, eAnd, eOr, eNot, eCh, eFld, List.map_cons, List.map_nil, List.length_cons, List.length_nil, List.replicate, List.cons_append, List.nil_append, List.append_nil, List.getElem?_cons_zero, List.getElem?_cons_succ, List.set_cons_zero, List.set_cons_succ, Option.join_some, Nat.reduceAdd, Nat.reduceSub, Nat.reduceLeDiff, Nat.reduceEqDiff, if_true, if_false, ite_true, ite_false, Bool.not_true, Bool.not_false, Bool.false_eq_true, Nat.zero_add, asD_d, zxf, asL_d, zyx, zxd, asQ_d, zyv, zya, zzv, zxz, zxj, zyd, zyz, zxb, zyb, zzf, zxw, ite_d, ite_b, ite_o, ite_e]
  rw [gLenS_is]
  simp only [mir, dst, fSq, fSet, fRet, fIf, fNil, fTg, fDrop, fPar, eVar, eC, e2, zzz, aNil, eTup, eLst, eCb, zxg, L3.args_nil, zqd, zxe, zxk, zxq, zzc, zyk, zzd, Option.map_some, zye, bd_ok, zyw, zzb, zqa, zqc, zqe, zqy, zyc, zxh, res_d, zyy, zyj, zqb, zqv, zyq, zzh, zxx, tru_b, bNot, bAnd, bOr, eAnd, eOr, eNot, eCh, eFld, List.map_cons, List.map_nil, List.length_cons, List.length_nil, List.replicate, List.cons_append, List.nil_append, List.append_nil, List.getElem?_cons_zero, List.getElem?_cons_succ, List.set_cons_zero, List.set_cons_succ, Option.join_some, Nat.reduceAdd, Nat.reduceSub, Nat.reduceLeDiff, Nat.reduceEqDiff, if_true, if_false, ite_true, ite_false, Bool.not_true, Bool.not_false, Bool.false_eq_true, Nat.zero_add, asD_d, zxf, asL_d, zyx, zxd, asQ_d, zyv, zya, zzv, zxz, zxj, zyd, zyz, zxb, zyb, zzf, zxw, ite_d, ite_b, ite_o, ite_e]
  by_cases hk : k < (ns.length : Int)
  · obtain ⟨x, hx⟩ := atI_some h hk
    rw [decide_eq_true hk, gIxS_is, hx, if_pos hk]
    simp only [mir, dst, fSq, fSet, fRet, fIf, fNil, fTg, fDrop, fPar, eVar, eC, e2, zzz, aNil, eTup, eLst, eCb, zxg, L3.args_nil, zqd, zxe, zxk, zxq, zzc, zyk, zzd, Option.map_some, zye, bd_ok, zyw, zzb, zqa, zqc, zqe, zqy, zyc, zxh, res_d, zyy, zyj, zqb, zqv, zyq, zzh, zxx, tru_b, bNot, bAnd, bOr, eAnd, eOr, eNot, eCh, eFld, List.map_cons, List.map_nil, List.length_cons, List.length_nil, List.replicate, List.cons_append, List.nil_append, List.append_nil, List.getElem?_cons_zero, List.getElem?_cons_succ, List.set_cons_zero, List.set_cons_succ, Option.join_some, Nat.reduceAdd, Nat.reduceSub, Nat.reduceLeDiff, Nat.reduceEqDiff, if_true, if_false, ite_true, ite_false, Bool.not_true, Bool.not_false, Bool.false_eq_true, Nat.zero_add, asD_d, zxf, asL_d, zyx, zxd, asQ_d, zyv, zya, zzv, zxz, zxj, zyd, zyz, zxb, zyb, zzf, zxw, ite_d, ite_b, ite_o, ite_e]
    rfl
  · rw [decide_eq_false hk, if_neg hk]
    simp only [mir, dst, fSq, fSet, fRet, fIf, fNil, fTg, fDrop, fPar, eVar, eC, e2, zzz, aNil, eTup, eLst, eCb, zxg, L3.args_nil, zqd, zxe, zxk, zxq, zzc, zyk, zzd, Option.map_some, zye, bd_ok, zyw, zzb, zqa, zqc, zqe, zqy, zyc, zxh, res_d, zyy, zyj, zqb, zqv, zyq, zzh, zxx, tru_b, bNot, bAnd, bOr, eAnd, eOr, eNot, eCh, eFld, List.map_cons, List.map_nil, List.length_cons, List.length_nil, List.replicate, List.cons_append, List.nil_append, List.append_nil, List.getElem?_cons_zero, List.getElem?_cons_succ, List.set_cons_zero, List.set_cons_succ, Option.join_some, Nat.reduceAdd, Nat.reduceSub, Nat.reduceLeDiff, Nat.reduceEqDiff, if_true, if_false, ite_true, ite_false, Bool.not_true, Bool.not_false, Bool.false_eq_true, Nat.zero_add, asD_d, zxf, asL_d, zyx, zxd, asQ_d, zyv, zya, zzv, zxz, zxj, zyd, zyz, zxb, zyb, zzf, zxw, ite_d, ite_b, ite_o, ite_e]
theorem at_big {i : Int} (h0 : 0 ≤ i) (h1 : i < 13) : ∃ x : Int, atI ([.int 48271, .int 69621, .int 16807, .int 39373, .int 30269, .int 40014, .int 40692, .int 50021, .int 61687, .int 71993, .int 83869, .int 95561, .int 30307] : List D) i = some (.int x) ∧ 0 < x ∧ x < 100000 := by
  obtain ⟨n, rfl⟩ := Int.eq_ofNat_of_zero_le h0
  have hn : n < 13 := by lia
  match n, hn with
  | 0, _ | 1, _ | 2, _ | 3, _ | 4, _ | 5, _ | 6, _ | 7, _ | 8, _ | 9, _ | 10, _ | 11, _ | 12, _ => exact ⟨_, rfl, by decide, by decide⟩
theorem gIx_own {xs : List D} {i : Int} {x : D} (h : atI xs i = some x) : gIx (.own xs) (.d (.int i)) = rt (.d x) := by
  unfold gIx
  simp only [h, zzb, zye]
theorem gIx_new {xs : List D} {i : Int} {x : D} (h : atI xs i = some x) : gIx (.new xs) (.d (.int i)) = rt (.d x) := by
  unfold gIx
  simp only [h, zzb, zye]
theorem gIx_tup {xs : List D} {i : Int} {x : D} (h : atI xs i = some x) : gIx (.d (.tuple xs)) (.d (.int i)) = rt (.d x) := by
  unfold gIx
  simp only [h, zzb, zye]
theorem gIx_lst {xs : List D} {i : Int} {x : D} (h : atI xs i = some x) : gIx (.d (.list xs)) (.d (.int i)) = rt (.d x) := by
  unfold gIx
  simp only [h, zzb, zye]
theorem cMul_l {i j : Int} (h : 0 ≤ i) (h' : i < 18446744073709551616) : cMul i j = true := by
  unfold cMul
  have a : decide (-(2 ^ 64) < i) = true := decide_eq_true (by lia)
  have b : decide (i < 2 ^ 64) = true := decide_eq_true (by lia)
  rw [a, b]; rfl
theorem cMul_r {i j : Int} (h : 0 ≤ j) (h' : j < 18446744073709551616) : cMul i j = true := by
  unfold cMul
  have a : decide (-(2 ^ 64) < j) = true := decide_eq_true (by lia)
  have b : decide (j < 2 ^ 64) = true := decide_eq_true (by lia)
  rw [a, b, Bool.and_true, Bool.or_true]
theorem m_mix (cell k many : Int) (hm : 0 < many) : ∃ r, zzw [.d (.int cell), .d (.int k), .d (.int many)] = rt (.d (.int r)) ∧ 0 ≤ r ∧ r < many := by
  unfold zzw F__law_mix
  simp only [mir, dst, fSq, fSet, fRet, fIf, fNil, fTg, fDrop, fPar, eVar, eC, e2, zzz, aNil, eTup, eLst, eCb, zxg, L3.args_nil, zqd, zxe, zxk, zxq, zzc, zyk, zzd, Option.map_some, zye, bd_ok, zyw, zzb, zqa, zqc, zqe, zqy, zyc, zxh, res_d, zyy, zyj, zqb, zqv, zyq, zzh, zxx, tru_b, bNot, bAnd, bOr, eAnd, eOr, eNot, eCh, eFld, List.map_cons, List.map_nil, List.length_cons, List.length_nil, List.replicate, List.cons_append, List.nil_append, List.append_nil, List.getElem?_cons_zero, List.getElem?_cons_succ, List.set_cons_zero, List.set_cons_succ, Option.join_some, Nat.reduceAdd, Nat.reduceSub, Nat.reduceLeDiff, Nat.reduceEqDiff, if_true, if_false, ite_true, ite_false, Bool.not_true, Bool.not_false, Bool.false_eq_true, Nat.zero_add, asD_d, zxf, asL_d, zyx, zxd, asQ_d, zyv, zya, zzv, zxz, zxj, zyd, zyz, zxb, zyb, zzf, zxw, ite_d, ite_b, ite_o, ite_e]
  rw [gMod_int (by decide), gMod_int (by decide), gDiv_int (by decide) (by decide)]
  obtain ⟨x, hx, x0, x1⟩ := at_big (Int.emod_nonneg k (by decide : (13 : Int) ≠ 0)) (Int.emod_lt_of_pos k (by decide : (0 : Int) < 13))
  simp only [mir, dst, fSq, fSet, fRet, fIf, fNil, fTg, fDrop, fPar, eVar, eC, e2, zzz, aNil, eTup, eLst, eCb, zxg, L3.args_nil, zqd, zxe, zxk, zxq, zzc, zyk, zzd, Option.map_some, zye, bd_ok, zyw, zzb, zqa, zqc, zqe, zqy, zyc, zxh, res_d, zyy, zyj, zqb, zqv, zyq, zzh, zxx, tru_b, bNot, bAnd, bOr, eAnd, eOr, eNot, eCh, eFld, List.map_cons, List.map_nil, List.length_cons, List.length_nil, List.replicate, List.cons_append, List.nil_append, List.append_nil, List.getElem?_cons_zero, List.getElem?_cons_succ, List.set_cons_zero, List.set_cons_succ, Option.join_some, Nat.reduceAdd, Nat.reduceSub, Nat.reduceLeDiff, Nat.reduceEqDiff, if_true, if_false, ite_true, ite_false, Bool.not_true, Bool.not_false, Bool.false_eq_true, Nat.zero_add, asD_d, zxf, asL_d, zyx, zxd, asQ_d, zyv, zya, zzv, zxz, zxj, zyd, zyz, zxb, zyb, zzf, zxw, ite_d, ite_b, ite_o, ite_e]
  rw [gIx_own hx]
  simp only [mir, dst, fSq, fSet, fRet, fIf, fNil, fTg, fDrop, fPar, eVar, eC, e2, zzz, aNil, eTup, eLst, eCb, zxg, L3.args_nil, zqd, zxe, zxk, zxq, zzc, zyk, zzd, Option.map_some, zye, bd_ok, zyw, zzb, zqa, zqc, zqe, zqy, zyc, zxh, res_d, zyy, zyj, zqb, zqv, zyq, zzh, zxx, tru_b, bNot, bAnd, bOr, eAnd, eOr, eNot, eCh, eFld, List.map_cons, List.map_nil, List.length_cons, List.length_nil, List.replicate, List.cons_append, List.nil_append, List.append_nil, List.getElem?_cons_zero, List.getElem?_cons_succ, List.set_cons_zero, List.set_cons_succ, Option.join_some, Nat.reduceAdd, Nat.reduceSub, Nat.reduceLeDiff, Nat.reduceEqDiff, if_true, if_false, ite_true, ite_false, Bool.not_true, Bool.not_false, Bool.false_eq_true, Nat.zero_add, asD_d, zxf, asL_d, zyx, zxd, asQ_d, zyv, zya, zzv, zxz, zxj, zyd, zyz, zxb, zyb, zzf, zxw, ite_d, ite_b, ite_o, ite_e]
  rw [gTimes_int (cMul_r (by lia) (by lia)), gTimes_int (cMul_l (by decide) (by decide)), gTimes_int (cMul_l (by decide) (by decide))]
  simp only [mir, dst, fSq, fSet, fRet, fIf, fNil, fTg, fDrop, fPar, eVar, eC, e2, zzz, aNil, eTup, eLst, eCb, zxg, L3.args_nil, zqd, zxe, zxk, zxq, zzc, zyk, zzd, Option.map_some, zye, bd_ok, zyw, zzb, zqa, zqc, zqe, zqy, zyc, zxh, res_d, zyy, zyj, zqb, zqv, zyq, zzh, zxx, tru_b, bNot, bAnd, bOr, eAnd, eOr, eNot, eCh, eFld, List.map_cons, List.map_nil, List.length_cons, List.length_nil, List.replicate, List.cons_append, List.nil_append, List.append_nil, List.getElem?_cons_zero, List.getElem?_cons_succ, List.set_cons_zero, List.set_cons_succ, Option.join_some, Nat.reduceAdd, Nat.reduceSub, Nat.reduceLeDiff, Nat.reduceEqDiff, if_true, if_false, ite_true, ite_false, Bool.not_true, Bool.not_false, Bool.false_eq_true, Nat.zero_add, asD_d, zxf, asL_d, zyx, zxd, asQ_d, zyv, zya, zzv, zxz, zxj, zyd, zyz, zxb, zyb, zzf, zxw, ite_d, ite_b, ite_o, ite_e]
  rw [gMod_int (by decide)]
  simp only [mir, dst, fSq, fSet, fRet, fIf, fNil, fTg, fDrop, fPar, eVar, eC, e2, zzz, aNil, eTup, eLst, eCb, zxg, L3.args_nil, zqd, zxe, zxk, zxq, zzc, zyk, zzd, Option.map_some, zye, bd_ok, zyw, zzb, zqa, zqc, zqe, zqy, zyc, zxh, res_d, zyy, zyj, zqb, zqv, zyq, zzh, zxx, tru_b, bNot, bAnd, bOr, eAnd, eOr, eNot, eCh, eFld, List.map_cons, List.map_nil, List.length_cons, List.length_nil, List.replicate, List.cons_append, List.nil_append, List.append_nil, List.getElem?_cons_zero, List.getElem?_cons_succ, List.set_cons_zero, List.set_cons_succ, Option.join_some, Nat.reduceAdd, Nat.reduceSub, Nat.reduceLeDiff, Nat.reduceEqDiff, if_true, if_false, ite_true, ite_false, Bool.not_true, Bool.not_false, Bool.false_eq_true, Nat.zero_add, asD_d, zxf, asL_d, zyx, zxd, asQ_d, zyv, zya, zzv, zxz, zxj, zyd, zyz, zxb, zyb, zzf, zxw, ite_d, ite_b, ite_o, ite_e]
  generalize hs : ((cell % 2147483647 + 12345) * x + 977 * k + 7919 * (k / 13)) % 1000000007 = st
  have s0 : 0 ≤ st := by rw [← hs]; exact Int.emod_nonneg _ (by decide)
  have s1 : st < 1000000007 := by rw [← hs]; exact Int.emod_lt_of_pos _ (by decide)
  rw [gTimes_int (cMul_l s0 (by lia)), gTimes_int (cMul_l (by decide) (by decide))]
  simp only [mir, dst, fSq, fSet, fRet, fIf, fNil, fTg, fDrop, fPar, eVar, eC, e2, zzz, aNil, eTup, eLst, eCb, zxg, L3.args_nil, zqd, zxe, zxk, zxq, zzc, zyk, zzd, Option.map_some, zye, bd_ok, zyw, zzb, zqa, zqc, zqe, zqy, zyc, zxh, res_d, zyy, zyj, zqb, zqv, zyq, zzh, zxx, tru_b, bNot, bAnd, bOr, eAnd, eOr, eNot, eCh, eFld, List.map_cons, List.map_nil, List.length_cons, List.length_nil, List.replicate, List.cons_append, List.nil_append, List.append_nil, List.getElem?_cons_zero, List.getElem?_cons_succ, List.set_cons_zero, List.set_cons_succ, Option.join_some, Nat.reduceAdd, Nat.reduceSub, Nat.reduceLeDiff, Nat.reduceEqDiff, if_true, if_false, ite_true, ite_false, Bool.not_true, Bool.not_false, Bool.false_eq_true, Nat.zero_add, asD_d, zxf, asL_d, zyx, zxd, asQ_d, zyv, zya, zzv, zxz, zxj, zyd, zyz, zxb, zyb, zzf, zxw, ite_d, ite_b, ite_o, ite_e]
  rw [gMod_int (by decide)]
  simp only [mir, dst, fSq, fSet, fRet, fIf, fNil, fTg, fDrop, fPar, eVar, eC, e2, zzz, aNil, eTup, eLst, eCb, zxg, L3.args_nil, zqd, zxe, zxk, zxq, zzc, zyk, zzd, Option.map_some, zye, bd_ok, zyw, zzb, zqa, zqc, zqe, zqy, zyc, zxh, res_d, zyy, zyj, zqb, zqv, zyq, zzh, zxx, tru_b, bNot, bAnd, bOr, eAnd, eOr, eNot, eCh, eFld, List.map_cons, List.map_nil, List.length_cons, List.length_nil, List.replicate, List.cons_append, List.nil_append, List.append_nil, List.getElem?_cons_zero, List.getElem?_cons_succ, List.set_cons_zero, List.set_cons_succ, Option.join_some, Nat.reduceAdd, Nat.reduceSub, Nat.reduceLeDiff, Nat.reduceEqDiff, if_true, if_false, ite_true, ite_false, Bool.not_true, Bool.not_false, Bool.false_eq_true, Nat.zero_add, asD_d, zxf, asL_d, zyx, zxd, asQ_d, zyv, zya, zzv, zxz, zxj, zyd, zyz, zxb, zyb, zzf, zxw, ite_d, ite_b, ite_o, ite_e]
  rw [gDiv_int (by decide) (by decide)]
  simp only [mir, dst, fSq, fSet, fRet, fIf, fNil, fTg, fDrop, fPar, eVar, eC, e2, zzz, aNil, eTup, eLst, eCb, zxg, L3.args_nil, zqd, zxe, zxk, zxq, zzc, zyk, zzd, Option.map_some, zye, bd_ok, zyw, zzb, zqa, zqc, zqe, zqy, zyc, zxh, res_d, zyy, zyj, zqb, zqv, zyq, zzh, zxx, tru_b, bNot, bAnd, bOr, eAnd, eOr, eNot, eCh, eFld, List.map_cons, List.map_nil, List.length_cons, List.length_nil, List.replicate, List.cons_append, List.nil_append, List.append_nil, List.getElem?_cons_zero, List.getElem?_cons_succ, List.set_cons_zero, List.set_cons_succ, Option.join_some, Nat.reduceAdd, Nat.reduceSub, Nat.reduceLeDiff, Nat.reduceEqDiff, if_true, if_false, ite_true, ite_false, Bool.not_true, Bool.not_false, Bool.false_eq_true, Nat.zero_add, asD_d, zxf, asL_d, zyx, zxd, asQ_d, zyv, zya, zzv, zxz, zxj, zyd, zyz, zxb, zyb, zzf, zxw, ite_d, ite_b, ite_o, ite_e]
  rw [gMod_int hm]
  simp only [mir, dst, fSq, fSet, fRet, fIf, fNil, fTg, fDrop, fPar, eVar, eC, e2, zzz, aNil, eTup, eLst, eCb, zxg, L3.args_nil, zqd, zxe, zxk, zxq, zzc, zyk, zzd, Option.map_some, zye, bd_ok, zyw, zzb, zqa, zqc, zqe, zqy, zyc, zxh, res_d, zyy, zyj, zqb, zqv, zyq, zzh, zxx, tru_b, bNot, bAnd, bOr, eAnd, eOr, eNot, eCh, eFld, List.map_cons, List.map_nil, List.length_cons, List.length_nil, List.replicate, List.cons_append, List.nil_append, List.append_nil, List.getElem?_cons_zero, List.getElem?_cons_succ, List.set_cons_zero, List.set_cons_succ, Option.join_some, Nat.reduceAdd, Nat.reduceSub, Nat.reduceLeDiff, Nat.reduceEqDiff, if_true, if_false, ite_true, ite_false, Bool.not_true, Bool.not_false, Bool.false_eq_true, Nat.zero_add, asD_d, zxf, asL_d, zyx, zxd, asQ_d, zyv, zya, zzv, zxz, zxj, zyd, zyz, zxb, zyb, zzf, zxw, ite_d, ite_b, ite_o, ite_e]
  exact ⟨_, rfl, Int.emod_nonneg _ (by lia), Int.emod_lt_of_pos _ hm⟩
end LW
set_option Elab.async false
set_option linter.all false
set_option maxRecDepth 100000
set_option maxHeartbeats 1000000
set_option autoImplicit false
namespace LW
open PySem PySem.Spec L2 L3
theorem m_house (K : PySem.W.Frag) (ns : List Int) : ∃ m c, M__law_house_by K [.scr K ns] = rt (.d (.tuple [.int m, .int c])) ∧ 3 ≤ m ∧ m ≤ 13 ∧ 1 ≤ c ∧ c ≤ 4 := by
  unfold M__law_house_by F__law_house_by
  simp only [mir, dst, fSq, fSet, fRet, fIf, fNil, fTg, fDrop, fPar, eVar, eC, e2, zzz, aNil, eTup, eLst, eCb, zxg, L3.args_nil, zqd, zxe, zxk, zxq, zzc, zyk, zzd, Option.map_some, zye, bd_ok, zyw, zzb, zqa, zqc, zqe, zqy, zyc, zxh, res_d, zyy, zyj, zqb, zqv, zyq, zzh, zxx, tru_b, bNot, bAnd, bOr, eAnd, eOr, eNot, eCh, eFld, List.map_cons, List.map_nil, List.length_cons, List.length_nil, List.replicate, List.cons_append, List.nil_append, List.append_nil, List.getElem?_cons_zero, List.getElem?_cons_succ, List.set_cons_zero, List.set_cons_succ, Option.join_some, Nat.reduceAdd, Nat.reduceSub, Nat.reduceLeDiff, Nat.reduceEqDiff, if_true, if_false, ite_true, ite_false, Bool.not_true, Bool.not_false, Bool.false_eq_true, Nat.zero_add, asD_d, zxf, asL_d, zyx, zxd, asQ_d, zyv, zya, zzv, zxz, zxj, zyd, zyz, zxb, zyb, zzf, zxw, ite_d, ite_b, ite_o, ite_e]
  rw [m_cell K ns 0 (by decide)]
  simp only [mir, dst, fSq, fSet, fRet, fIf, fNil, fTg, fDrop, fPar, eVar, eC, e2, zzz, aNil, eTup, eLst, eCb, zxg, L3.args_nil, zqd, zxe, zxk, zxq, zzc, zyk, zzd, Option.map_some, zye, bd_ok, zyw, zzb, zqa, zqc, zqe, zqy, zyc, zxh, res_d, zyy, zyj, zqb, zqv, zyq, zzh, zxx, tru_b, bNot, bAnd, bOr, eAnd, eOr, eNot, eCh, eFld, List.map_cons, List.map_nil, List.length_cons, List.length_nil, List.replicate, List.cons_append, List.nil_append, List.append_nil, List.getElem?_cons_zero, List.getElem?_cons_succ, List.set_cons_zero, List.set_cons_succ, Option.join_some, Nat.reduceAdd, Nat.reduceSub, Nat.reduceLeDiff, Nat.reduceEqDiff, if_true, if_false, ite_true, ite_false, Bool.not_true, Bool.not_false, Bool.false_eq_true, Nat.zero_add, asD_d, zxf, asL_d, zyx, zxd, asQ_d, zyv, zya, zzv, zxz, zxj, zyd, zyz, zxb, zyb, zzf, zxw, ite_d, ite_b, ite_o, ite_e]
  obtain ⟨r1, h1, a1, b1⟩ := m_mix (cellAt ns 0) 2 4 (by decide)
  rw [h1]
  simp only [mir, dst, fSq, fSet, fRet, fIf, fNil, fTg, fDrop, fPar, eVar, eC, e2, zzz, aNil, eTup, eLst, eCb, zxg, L3.args_nil, zqd, zxe, zxk, zxq, zzc, zyk, zzd, Option.map_some, zye, bd_ok, zyw, zzb, zqa, zqc, zqe, zqy, zyc, zxh, res_d, zyy, zyj, zqb, zqv, zyq, zzh, zxx, tru_b, bNot, bAnd, bOr, eAnd, eOr, eNot, eCh, eFld, List.map_cons, List.map_nil, List.length_cons, List.length_nil, List.replicate, List.cons_append, List.nil_append, List.append_nil, List.getElem?_cons_zero, List.getElem?_cons_succ, List.set_cons_zero, List.set_cons_succ, Option.join_some, Nat.reduceAdd, Nat.reduceSub, Nat.reduceLeDiff, Nat.reduceEqDiff, if_true, if_false, ite_true, ite_false, Bool.not_true, Bool.not_false, Bool.false_eq_true, Nat.zero_add, asD_d, zxf, asL_d, zyx, zxd, asQ_d, zyv, zya, zzv, zxz, zxj, zyd, zyz, zxb, zyb, zzf, zxw, ite_d, ite_b, ite_o, ite_e]
  have hx : ∃ x : Int, atI ([.int 4, .int 4, .int 4, .int 11] : List D) r1 = some (.int x) ∧ 4 ≤ x ∧ x ≤ 11 := by
    obtain ⟨n, rfl⟩ := Int.eq_ofNat_of_zero_le a1
    have hn : n < 4 := by lia
    match n, hn with
    | 0, _ | 1, _ | 2, _ | 3, _ => exact ⟨_, rfl, by decide, by decide⟩
  obtain ⟨x, hx, x4, x11⟩ := hx
  rw [gIx_new hx]
  simp only [mir, dst, fSq, fSet, fRet, fIf, fNil, fTg, fDrop, fPar, eVar, eC, e2, zzz, aNil, eTup, eLst, eCb, zxg, L3.args_nil, zqd, zxe, zxk, zxq, zzc, zyk, zzd, Option.map_some, zye, bd_ok, zyw, zzb, zqa, zqc, zqe, zqy, zyc, zxh, res_d, zyy, zyj, zqb, zqv, zyq, zzh, zxx, tru_b, bNot, bAnd, bOr, eAnd, eOr, eNot, eCh, eFld, List.map_cons, List.map_nil, List.length_cons, List.length_nil, List.replicate, List.cons_append, List.nil_append, List.append_nil, List.getElem?_cons_zero, List.getElem?_cons_succ, List.set_cons_zero, List.set_cons_succ, Option.join_some, Nat.reduceAdd, Nat.reduceSub, Nat.reduceLeDiff, Nat.reduceEqDiff, if_true, if_false, ite_true, ite_false, Bool.not_true, Bool.not_false, Bool.false_eq_true, Nat.zero_add, asD_d, zxf, asL_d, zyx, zxd, asQ_d, zyv, zya, zzv, zxz, zxj, zyd, zyz, zxb, zyb, zzf, zxw, ite_d, ite_b, ite_o, ite_e]
  obtain ⟨r2, h2, a2, b2⟩ := m_mix (cellAt ns 0) 1 x (by lia)
  obtain ⟨r3, h3, a3, b3⟩ := m_mix (cellAt ns 0) 3 4 (by decide)
  rw [h2, h3]
  simp only [mir, dst, fSq, fSet, fRet, fIf, fNil, fTg, fDrop, fPar, eVar, eC, e2, zzz, aNil, eTup, eLst, eCb, zxg, L3.args_nil, zqd, zxe, zxk, zxq, zzc, zyk, zzd, Option.map_some, zye, bd_ok, zyw, zzb, zqa, zqc, zqe, zqy, zyc, zxh, res_d, zyy, zyj, zqb, zqv, zyq, zzh, zxx, tru_b, bNot, bAnd, bOr, eAnd, eOr, eNot, eCh, eFld, List.map_cons, List.map_nil, List.length_cons, List.length_nil, List.replicate, List.cons_append, List.nil_append, List.append_nil, List.getElem?_cons_zero, List.getElem?_cons_succ, List.set_cons_zero, List.set_cons_succ, Option.join_some, Nat.reduceAdd, Nat.reduceSub, Nat.reduceLeDiff, Nat.reduceEqDiff, if_true, if_false, ite_true, ite_false, Bool.not_true, Bool.not_false, Bool.false_eq_true, Nat.zero_add, asD_d, zxf, asL_d, zyx, zxd, asQ_d, zyv, zya, zzv, zxz, zxj, zyd, zyz, zxb, zyb, zzf, zxw, ite_d, ite_b, ite_o, ite_e]
  exact ⟨_, _, rfl, by lia, by lia, by lia, by lia⟩
noncomputable def pr (p : Int × Int) : D := .tuple [.int p.1, .int p.2]
theorem eqv_pr (p q : Int × Int) : PyData.eqv (pr p) (pr q) = decide (p = q) := by
  obtain ⟨a, b⟩ := p
  obtain ⟨c, d⟩ := q
  show PyData.eqvAll ([a, b].map PyData.int) ([c, d].map PyData.int) = _
  rw [eqv_ints]
  simp
theorem eqv_prs : ∀ ps qs : List (Int × Int), PyData.eqvAll (ps.map pr) (qs.map pr) = decide (ps = qs)
  | [], [] => rfl
  | [], _ :: _ => rfl
  | _ :: _, [] => rfl
  | p :: ps, q :: qs => by
    rw [List.map_cons, List.map_cons, PyData.eqvAll, eqv_pr, eqv_prs ps qs]
    by_cases h : p = q
    · subst h; simp
    · simp [h]
theorem pr_inj {p q : Int × Int} (h : pr p = pr q) : p = q := by
  have := eqv_pr p q
  rw [h, eqv_pr] at this
  simpa using this.symm
theorem depth_prs : ∀ ps : List (Int × Int), PyData.depthAll (ps.map pr) ≤ 1
  | [] => by decide
  | p :: ps => by
    rw [List.map_cons, PyData.depthAll]
    have h1 : (pr p).depth = 1 := rfl
    have h2 := depth_prs ps
    lia
noncomputable def le (p q : Int × Int) : Bool := !(ll [q.1, q.2] [p.1, p.2])
theorem cD_pr (p q : Int × Int) : cD false (pr p) (pr q) = some (le p q) := by
  obtain ⟨a, b⟩ := p
  obtain ⟨c, d⟩ := q
  show cL false [.int a, .int b] [.int c, .int d] = some (!(HT.lexLt [c, d] [a, b]))
  unfold cL
  have e1 : PyData.eqv (.int a) (.int c) = (a == c) := rfl
  have e2 : PyData.eqv (.int b) (.int d) = (b == d) := rfl
  rw [e1, HT.lexLt_cons, HT.lexLt_cons]
  by_cases h : a = c
  · subst h
    rw [if_pos (beq_self_eq_true a), if_pos rfl]
    unfold cL
    rw [e2]
    by_cases h' : b = d
    · subst h'
      rw [if_pos (beq_self_eq_true b), if_pos rfl]
      rfl
    · rw [if_neg (by simpa using h'), if_neg (Ne.symm h')]
      show some (decide (b ≤ d)) = _
      congr 1
      by_cases hb : b ≤ d
      · simp [hb]
      · simp [hb]; lia
  · rw [if_neg (by simpa using h), if_neg (Ne.symm h)]
    show some (decide (a ≤ c)) = _
    congr 1
    by_cases hb : a ≤ c
    · simp [hb]
    · simp [hb]; lia
theorem gLeD_pr (p q : Int × Int) : gLeD (.d (pr p)) (.d (pr q)) = rt (.d (.bool (le p q))) := by
  have h : gLeD (.d (pr p)) (.d (pr q)) = gC false (.d (pr p)) (.d (pr q)) := rfl
  rw [h]
  show (if (pr p).depth ≤ 60 then bd (op (cD false (pr p) (pr q))) (fun k => rt (DV.d (.bool k))) else none) = _
  rw [if_pos (show (pr p).depth ≤ 60 from (by decide : 1 ≤ 60)), cD_pr]
  rfl
theorem comp_map {fe : DS → M DV} {δ : DS} {g : D → D} : ∀ {xs : List D}, (∀ d ∈ xs, fe (δ.set 0 (some (.d d))) = rt (.d (g d))) → compD (zjq 0) bYes fe δ xs = some (xs.map g)
  | [], _ => rfl
  | d :: r, h => by
    have h1 := h d List.mem_cons_self
    have ih := comp_map (xs := r) fun e he => h e (List.mem_cons_of_mem _ he)
    unfold compD
    simp only [zjq, bYes, rt]
    rw [h1, ih]
    rfl
theorem gAll_is {bs : List Bool} : gAll [.new (bs.map PyData.bool)] = rt (.d (.bool (bs.all id))) := by
  unfold gAll
  simp only [zxd, zzb, zye, bools_map]
noncomputable def tileOk (m c : Int) (p : Int × Int) : Bool := decide (1 ≤ p.1) && decide (p.1 ≤ m) && (decide (0 ≤ p.2) && decide (p.2 < c))
noncomputable def hs (C : Addr) (m c : Int) : DV := .ob C [("most", .int m), ("colours", .int c)]
theorem gFld_most (C : Addr) (m c : Int) : gFld C "most" (hs C m c) = rt (.d (.int m)) := by
  show (if C = C then bd (op (List.lookup ("most" : Str) [(("most" : Str), PyData.int m), ("colours", .int c)])) fun d => rt (DV.d d) else none) = _
  rw [if_pos rfl, List.lookup_cons]
  simp only [beq_self_eq_true]
  rfl
theorem gFld_colours (C : Addr) (m c : Int) : gFld C "colours" (hs C m c) = rt (.d (.int c)) := by
  show (if C = C then bd (op (List.lookup ("colours" : Str) [(("most" : Str), PyData.int m), ("colours", .int c)])) fun d => rt (DV.d d) else none) = _
  rw [if_pos rfl, List.lookup_cons]
  have h : (("colours" : Str) == "most") = false := by decide +kernel
  rw [h]
  simp only [List.lookup_cons, beq_self_eq_true]
  rfl
theorem args_hs (C : Addr) (m c : Int) (r : List DV) : args (hs C m c :: r) = (args r).map (hs C m c :: ·) := zxe _ _ _
theorem m_tile (C : Addr) (m c : Int) (p : Int × Int) : M_is_tile C [hs C m c, .d (pr p)] = rt (.d (.bool (tileOk m c p))) := by
  unfold M_is_tile F_is_tile
  simp only [mir, dst, fSq, fSet, fRet, fIf, fNil, fTg, fDrop, fPar, eVar, eC, e2, zzz, aNil, eTup, eLst, eCb, zxg, L3.args_nil, zqd, zxe, zxk, zxq, zzc, zyk, zzd, Option.map_some, zye, bd_ok, zyw, zzb, zqa, zqc, zqe, zqy, zyc, zxh, res_d, zyy, zyj, zqb, zqv, zyq, zzh, zxx, tru_b, bNot, bAnd, bOr, eAnd, eOr, eNot, eCh, eFld, List.map_cons, List.map_nil, List.length_cons, List.length_nil, List.replicate, List.cons_append, List.nil_append, List.append_nil, List.getElem?_cons_zero, List.getElem?_cons_succ, List.set_cons_zero, List.set_cons_succ, Option.join_some, Nat.reduceAdd, Nat.reduceSub, Nat.reduceLeDiff, Nat.reduceEqDiff, if_true, if_false, ite_true, ite_false, Bool.not_true, Bool.not_false, Bool.false_eq_true, Nat.zero_add, asD_d, zxf, asL_d, zyx, zxd, asQ_d, zyv, zya, zzv, zxz, zxj, zyd, zyz, zxb, zyb, zzf, zxw, ite_d, ite_b, ite_o, ite_e]
  have g0 : gIx (.d (pr p)) (.d (.int 0)) = rt (.d (.int p.1)) := gIx_tup rfl
  have g1 : gIx (.d (pr p)) (.d (.int 1)) = rt (.d (.int p.2)) := gIx_tup rfl
  rw [g0, g1, gFld_most, gFld_colours]
  simp only [mir, dst, fSq, fSet, fRet, fIf, fNil, fTg, fDrop, fPar, eVar, eC, e2, zzz, aNil, eTup, eLst, eCb, zxg, L3.args_nil, zqd, zxe, zxk, zxq, zzc, zyk, zzd, Option.map_some, zye, bd_ok, zyw, zzb, zqa, zqc, zqe, zqy, zyc, zxh, res_d, zyy, zyj, zqb, zqv, zyq, zzh, zxx, tru_b, bNot, bAnd, bOr, eAnd, eOr, eNot, eCh, eFld, List.map_cons, List.map_nil, List.length_cons, List.length_nil, List.replicate, List.cons_append, List.nil_append, List.append_nil, List.getElem?_cons_zero, List.getElem?_cons_succ, List.set_cons_zero, List.set_cons_succ, Option.join_some, Nat.reduceAdd, Nat.reduceSub, Nat.reduceLeDiff, Nat.reduceEqDiff, if_true, if_false, ite_true, ite_false, Bool.not_true, Bool.not_false, Bool.false_eq_true, Nat.zero_add, asD_d, zxf, asL_d, zyx, zxd, asQ_d, zyv, zya, zzv, zxz, zxj, zyd, zyz, zxb, zyb, zzf, zxw, ite_d, ite_b, ite_o, ite_e]
  rfl
noncomputable def inOrd (ps : List (Int × Int)) : Bool := (List.range (ps.length - 1)).all fun k => le (ps.getD k (0, 0)) (ps.getD (k + 1) (0, 0))
theorem atI_nn {α : Type} {xs : List α} {k : Nat} (h : k < xs.length) (d : α) : atI xs (k : Int) = some (xs.getD k d) := by
  unfold atI ixN
  rw [if_pos (by lia), if_pos (by lia)]
  simp [h]
theorem atI_pr {ps : List (Int × Int)} {k : Nat} (h : k < ps.length) : atI (ps.map pr) (k : Int) = some (pr (ps.getD k (0, 0))) := by
  rw [atI_map, atI_nn h (0, 0)]
  rfl
theorem runI_mem {lo : Int} {n : Nat} {d : D} (h : d ∈ runI lo n) : ∃ i : Nat, i < n ∧ d = .int (lo + (i : Int)) := by
  unfold runI at h
  obtain ⟨i, hi, e⟩ := List.mem_map.mp h
  exact ⟨i, List.mem_range.mp hi, e.symm⟩
theorem order_comp (ps : List (Int × Int)) : compD (zjq 0) bYes (e2 gLeD (e2 gIx (eVar 1) (e2 gSub (eVar 0) (eC (.int 1)))) (e2 gIx (eVar 1) (eVar 0))) (subD 1 [0] [some (.d (.list (ps.map pr)))]) (runI 1 ((ps.length : Int) - 1).toNat) = some (((List.range (ps.length - 1)).map fun k => le (ps.getD k (0, 0)) (ps.getD (k + 1) (0, 0))).map PyData.bool) := by
  rw [comp_map (g := fun d => match d with | .int i => .bool (le (ps.getD (i - 1).toNat (0, 0)) (ps.getD i.toNat (0, 0))) | _ => .none)]
  · have hn : ((ps.length : Int) - 1).toNat = ps.length - 1 := by lia
    rw [hn]
    unfold runI
    rw [List.map_map, List.map_map]
    congr 1
    refine List.map_congr_left fun k hk => ?_
    show PyData.bool (le (ps.getD (1 + (k : Int) - 1).toNat (0, 0)) (ps.getD (1 + (k : Int)).toNat (0, 0))) = _
    have e1 : (1 + (k : Int) - 1).toNat = k := by lia
    have e2 : (1 + (k : Int)).toNat = k + 1 := by lia
    rw [e1, e2]
    rfl
  · intro d hd
    obtain ⟨i, hi, rfl⟩ := runI_mem hd
    unfold subD
    simp only [mir, dst, fSq, fSet, fRet, fIf, fNil, fTg, fDrop, fPar, eVar, eC, e2, zzz, aNil, eTup, eLst, eCb, zxg, L3.args_nil, zqd, zxe, zxk, zxq, zzc, zyk, zzd, Option.map_some, zye, bd_ok, zyw, zzb, zqa, zqc, zqe, zqy, zyc, zxh, res_d, zyy, zyj, zqb, zqv, zyq, zzh, zxx, tru_b, bNot, bAnd, bOr, eAnd, eOr, eNot, eCh, eFld, List.map_cons, List.map_nil, List.length_cons, List.length_nil, List.replicate, List.cons_append, List.nil_append, List.append_nil, List.getElem?_cons_zero, List.getElem?_cons_succ, List.set_cons_zero, List.set_cons_succ, Option.join_some, Nat.reduceAdd, Nat.reduceSub, Nat.reduceLeDiff, Nat.reduceEqDiff, if_true, if_false, ite_true, ite_false, Bool.not_true, Bool.not_false, Bool.false_eq_true, Nat.zero_add, asD_d, zxf, asL_d, zyx, zxd, asQ_d, zyv, zya, zzv, zxz, zxj, zyd, zyz, zxb, zyb, zzf, zxw, ite_d, ite_b, ite_o, ite_e]
    have hi2 : i + 1 < ps.length := by lia
    have e1 : (1 + (i : Int) - 1) = (i : Int) := by lia
    have e2 : (1 + (i : Int)) = ((i + 1 : Nat) : Int) := by lia
    rw [e1, e2, gIx_lst (atI_pr (by lia)), gIx_lst (atI_pr hi2)]
    simp only [mir, dst, fSq, fSet, fRet, fIf, fNil, fTg, fDrop, fPar, eVar, eC, e2, zzz, aNil, eTup, eLst, eCb, zxg, L3.args_nil, zqd, zxe, zxk, zxq, zzc, zyk, zzd, Option.map_some, zye, bd_ok, zyw, zzb, zqa, zqc, zqe, zqy, zyc, zxh, res_d, zyy, zyj, zqb, zqv, zyq, zzh, zxx, tru_b, bNot, bAnd, bOr, eAnd, eOr, eNot, eCh, eFld, List.map_cons, List.map_nil, List.length_cons, List.length_nil, List.replicate, List.cons_append, List.nil_append, List.append_nil, List.getElem?_cons_zero, List.getElem?_cons_succ, List.set_cons_zero, List.set_cons_succ, Option.join_some, Nat.reduceAdd, Nat.reduceSub, Nat.reduceLeDiff, Nat.reduceEqDiff, if_true, if_false, ite_true, ite_false, Bool.not_true, Bool.not_false, Bool.false_eq_true, Nat.zero_add, asD_d, zxf, asL_d, zyx, zxd, asQ_d, zyv, zya, zzv, zxz, zxj, zyd, zyz, zxb, zyb, zzf, zxw, ite_d, ite_b, ite_o, ite_e]
    rw [gLeD_pr]
    have e3 : ((i + 1 : Nat) : Int) - 1 = (i : Int) := by lia
    simp only [e3, Int.toNat_natCast]
theorem gLen_prs (ps : List (Int × Int)) : gLen [.d (.list (ps.map pr))] = rt (.d (.int (ps.length : Int))) := by
  show rt (DV.d (.int ((ps.map pr).length : Int))) = _
  rw [List.length_map]
theorem iR2_is {fr : DS → M (List DV)} {δ : DS} {i j : Int} (h : fr δ = rt [.d (.int i), .d (.int j)]) (hi : -1000 ≤ i) (hi' : i ≤ 1000) (hj : -1000 ≤ j) (hj' : j ≤ 1000) : iR2 fr δ = rt (runI i (j - i).toNat) := by
  unfold iR2
  rw [h]
  exact if_pos ⟨by lia, by lia, by lia, by lia⟩
theorem iR1_is {fr : DS → M (List DV)} {δ : DS} {j : Int} (h : fr δ = rt [.d (.int j)]) (hj : -1000 ≤ j) (hj' : j ≤ 1000) : iR1 fr δ = rt (runI 0 j.toNat) := by
  unfold iR1
  rw [h]
  exact if_pos ⟨by lia, by lia⟩
theorem eComp_is {k : Nat} {js : List Nat} {fi : DS → M (List D)} {sf : D → DS → Option DS} {gc : DS → M Bool} {fe : DS → M DV} {δ : DS} {xs ys : List D} (h1 : fi δ = rt xs) (h2 : xs.length ≤ 1000000) (h3 : compD sf gc fe (subD k js δ) xs = some ys) : eComp k js fi sf gc fe δ = rt (.new ys) := by
  unfold eComp
  rw [h1, zye, if_pos h2, h3]
  rfl
theorem m_order (ps : List (Int × Int)) (hl : ps.length ≤ 1000) : M_is_in_order [.d (.list (ps.map pr))] = rt (.d (.bool (inOrd ps))) := by
  unfold M_is_in_order F_is_in_order
  simp only [mir, dst, fSq, fSet, fRet, fIf, fNil, fTg, fDrop, fPar, eVar, eC, e2, zzz, aNil, eTup, eLst, eCb, zxg, L3.args_nil, zqd, zxe, zxk, zxq, zzc, zyk, zzd, Option.map_some, zye, bd_ok, zyw, zzb, zqa, zqc, zqe, zqy, zyc, zxh, res_d, zyy, zyj, zqb, zqv, zyq, zzh, zxx, tru_b, bNot, bAnd, bOr, eAnd, eOr, eNot, eCh, eFld, List.map_cons, List.map_nil, List.length_cons, List.length_nil, List.replicate, List.cons_append, List.nil_append, List.append_nil, List.getElem?_cons_zero, List.getElem?_cons_succ, List.set_cons_zero, List.set_cons_succ, Option.join_some, Nat.reduceAdd, Nat.reduceSub, Nat.reduceLeDiff, Nat.reduceEqDiff, if_true, if_false, ite_true, ite_false, Bool.not_true, Bool.not_false, Bool.false_eq_true, Nat.zero_add, asD_d, zxf, asL_d, zyx, zxd, asQ_d, zyv, zya, zzv, zxz, zxj, zyd, zyz, zxb, zyb, zzf, zxw, ite_d, ite_b, ite_o, ite_e]
  rw [eComp_is (iR2_is (i := 1) (j := (ps.length : Int)) (by simp only [mir, dst, fSq, fSet, fRet, fIf, fNil, fTg, fDrop, fPar, eVar, eC, e2, zzz, aNil, eTup, eLst, eCb, zxg, L3.args_nil, zqd, zxe, zxk, zxq, zzc, zyk, zzd, Option.map_some, zye, bd_ok, zyw, zzb, zqa, zqc, zqe, zqy, zyc, zxh, res_d, zyy, zyj, zqb, zqv, zyq, zzh, zxx, tru_b, bNot, bAnd, bOr, eAnd, eOr, eNot, eCh, eFld, List.map_cons, List.map_nil, List.length_cons, List.length_nil, List.replicate, List.cons_append, List.nil_append, List.append_nil, List.getElem?_cons_zero, List.getElem?_cons_succ, List.set_cons_zero, List.set_cons_succ, Option.join_some, Nat.reduceAdd, Nat.reduceSub, Nat.reduceLeDiff, Nat.reduceEqDiff, if_true, if_false, ite_true, ite_false, Bool.not_true, Bool.not_false, Bool.false_eq_true, Nat.zero_add, asD_d, zxf, asL_d, zyx, zxd, asQ_d, zyv, zya, zzv, zxz, zxj, zyd, zyz, zxb, zyb, zzf, zxw, ite_d, ite_b, ite_o, ite_e]; rw [gLen_prs]; simp only [mir, dst, fSq, fSet, fRet, fIf, fNil, fTg, fDrop, fPar, eVar, eC, e2, zzz, aNil, eTup, eLst, eCb, zxg, L3.args_nil, zqd, zxe, zxk, zxq, zzc, zyk, zzd, Option.map_some, zye, bd_ok, zyw, zzb, zqa, zqc, zqe, zqy, zyc, zxh, res_d, zyy, zyj, zqb, zqv, zyq, zzh, zxx, tru_b, bNot, bAnd, bOr, eAnd, eOr, eNot, eCh, eFld, List.map_cons, List.map_nil, List.length_cons, List.length_nil, List.replicate, List.cons_append, List.nil_append, List.append_nil, List.getElem?_cons_zero, List.getElem?_cons_succ, List.set_cons_zero, List.set_cons_succ, Option.join_some, Nat.reduceAdd, Nat.reduceSub, Nat.reduceLeDiff, Nat.reduceEqDiff, if_true, if_false, ite_true, ite_false, Bool.not_true, Bool.not_false, Bool.false_eq_true, Nat.zero_add, asD_d, zxf, asL_d, zyx, zxd, asQ_d, zyv, zya, zzv, zxz, zxj, zyd, zyz, zxb, zyb, zzf, zxw, ite_d, ite_b, ite_o, ite_e]) (by lia) (by lia) (by lia) (by lia)) (by rw [runI_len]; lia) (order_comp ps)]
  simp only [mir, dst, fSq, fSet, fRet, fIf, fNil, fTg, fDrop, fPar, eVar, eC, e2, zzz, aNil, eTup, eLst, eCb, zxg, L3.args_nil, zqd, zxe, zxk, zxq, zzc, zyk, zzd, Option.map_some, zye, bd_ok, zyw, zzb, zqa, zqc, zqe, zqy, zyc, zxh, res_d, zyy, zyj, zqb, zqv, zyq, zzh, zxx, tru_b, bNot, bAnd, bOr, eAnd, eOr, eNot, eCh, eFld, List.map_cons, List.map_nil, List.length_cons, List.length_nil, List.replicate, List.cons_append, List.nil_append, List.append_nil, List.getElem?_cons_zero, List.getElem?_cons_succ, List.set_cons_zero, List.set_cons_succ, Option.join_some, Nat.reduceAdd, Nat.reduceSub, Nat.reduceLeDiff, Nat.reduceEqDiff, if_true, if_false, ite_true, ite_false, Bool.not_true, Bool.not_false, Bool.false_eq_true, Nat.zero_add, asD_d, zxf, asL_d, zyx, zxd, asQ_d, zyv, zya, zzv, zxz, zxj, zyd, zyz, zxb, zyb, zzf, zxw, ite_d, ite_b, ite_o, ite_e]
  rw [gAll_is]
  simp only [mir, dst, fSq, fSet, fRet, fIf, fNil, fTg, fDrop, fPar, eVar, eC, e2, zzz, aNil, eTup, eLst, eCb, zxg, L3.args_nil, zqd, zxe, zxk, zxq, zzc, zyk, zzd, Option.map_some, zye, bd_ok, zyw, zzb, zqa, zqc, zqe, zqy, zyc, zxh, res_d, zyy, zyj, zqb, zqv, zyq, zzh, zxx, tru_b, bNot, bAnd, bOr, eAnd, eOr, eNot, eCh, eFld, List.map_cons, List.map_nil, List.length_cons, List.length_nil, List.replicate, List.cons_append, List.nil_append, List.append_nil, List.getElem?_cons_zero, List.getElem?_cons_succ, List.set_cons_zero, List.set_cons_succ, Option.join_some, Nat.reduceAdd, Nat.reduceSub, Nat.reduceLeDiff, Nat.reduceEqDiff, if_true, if_false, ite_true, ite_false, Bool.not_true, Bool.not_false, Bool.false_eq_true, Nat.zero_add, asD_d, zxf, asL_d, zyx, zxd, asQ_d, zyv, zya, zzv, zxz, zxj, zyd, zyz, zxb, zyb, zzf, zxw, ite_d, ite_b, ite_o, ite_e]
  unfold inOrd
  rw [List.all_map]
  rfl
end LW
set_option Elab.async false
set_option linter.all false
set_option maxRecDepth 100000
set_option maxHeartbeats 1000000
set_option autoImplicit false
namespace LW
open PySem PySem.Spec L2 L3
theorem comp_by {α : Type} {f : α → D} {fe : DS → M DV} {δ : DS} {g : α → D} : ∀ {as : List α}, (∀ a ∈ as, fe (δ.set 0 (some (.d (f a)))) = rt (.d (g a))) → compD (zjq 0) bYes fe δ (as.map f) = some (as.map g)
  | [], _ => rfl
  | a :: r, h => by
    have h1 := h a List.mem_cons_self
    have ih := comp_by (as := r) fun e he => h e (List.mem_cons_of_mem _ he)
    rw [List.map_cons, List.map_cons]
    unfold compD
    simp only [zjq, bYes, rt]
    rw [h1, ih]
    rfl
noncomputable def cnt (ps : List (Int × Int)) (p : Int × Int) : Int := (((ps.map pr).countP fun z => PyData.eqv z (pr p) : Nat) : Int)
theorem gCnt_lst (ps : List (Int × Int)) (p : Int × Int) : gCnt (.d (.list (ps.map pr))) (.d (pr p)) = rt (.d (.int (cnt ps p))) := by
  unfold gCnt cnt
  exact if_pos (show (pr p).depth ≤ 60 from (by decide : 1 ≤ 60))
theorem gCnt_own (ps : List (Int × Int)) (p : Int × Int) : gCnt (.own (ps.map pr)) (.d (pr p)) = rt (.d (.int (cnt ps p))) := by
  unfold gCnt cnt
  exact if_pos (show (pr p).depth ≤ 60 from (by decide : 1 ≤ 60))
noncomputable def tok (m c : Int) (ps : List (Int × Int)) (p : Int × Int) : Bool := tileOk m c p && decide (cnt ps p ≤ 2)
theorem hand_comp (C : Addr) (m c j : Int) (ps : List (Int × Int)) :
    compD (zjq 0) bYes (eAnd (eCb (zxg 2 (M_is_tile C)) (zzz (eVar 1) (zzz (eVar 0) aNil))) (e2 gLeD (eCnt (eVar 2) (eVar 0)) (eC (.int 2)))) (subD 1 [0, 1] [some (hs C m c), some (.d (.list (ps.map pr))), some (.d (.int j))]) (ps.map pr) = some ((ps.map (tok m c ps)).map PyData.bool) := by
  rw [List.map_map]
  refine comp_by fun p hp => ?_
  unfold subD
  simp only [mir, dst, fSq, fSet, fRet, fIf, fNil, fTg, fDrop, fPar, eVar, eC, e2, zzz, aNil, eTup, eLst, eCb, zxg, L3.args_nil, zqd, zxe, zxk, zxq, zzc, zyk, zzd, Option.map_some, zye, bd_ok, zyw, zzb, zqa, zqc, zqe, zqy, zyc, zxh, res_d, zyy, zyj, zqb, zqv, zyq, zzh, zxx, tru_b, bNot, bAnd, bOr, eAnd, eOr, eNot, eCh, eFld, List.map_cons, List.map_nil, List.length_cons, List.length_nil, List.replicate, List.cons_append, List.nil_append, List.append_nil, List.getElem?_cons_zero, List.getElem?_cons_succ, List.set_cons_zero, List.set_cons_succ, Option.join_some, Nat.reduceAdd, Nat.reduceSub, Nat.reduceLeDiff, Nat.reduceEqDiff, if_true, if_false, ite_true, ite_false, Bool.not_true, Bool.not_false, Bool.false_eq_true, Nat.zero_add, asD_d, zxf, asL_d, zyx, zxd, asQ_d, zyv, zya, zzv, zxz, zxj, zyd, zyz, zxb, zyb, zzf, zxw, ite_d, ite_b, ite_o, ite_e]
  unfold eCnt
  simp only [mir, dst, fSq, fSet, fRet, fIf, fNil, fTg, fDrop, fPar, eVar, eC, e2, zzz, aNil, eTup, eLst, eCb, zxg, L3.args_nil, zqd, zxe, zxk, zxq, zzc, zyk, zzd, Option.map_some, zye, bd_ok, zyw, zzb, zqa, zqc, zqe, zqy, zyc, zxh, res_d, zyy, zyj, zqb, zqv, zyq, zzh, zxx, tru_b, bNot, bAnd, bOr, eAnd, eOr, eNot, eCh, eFld, List.map_cons, List.map_nil, List.length_cons, List.length_nil, List.replicate, List.cons_append, List.nil_append, List.append_nil, List.getElem?_cons_zero, List.getElem?_cons_succ, List.set_cons_zero, List.set_cons_succ, Option.join_some, Nat.reduceAdd, Nat.reduceSub, Nat.reduceLeDiff, Nat.reduceEqDiff, if_true, if_false, ite_true, ite_false, Bool.not_true, Bool.not_false, Bool.false_eq_true, Nat.zero_add, asD_d, zxf, asL_d, zyx, zxd, asQ_d, zyv, zya, zzv, zxz, zxj, zyd, zyz, zxb, zyb, zzf, zxw, ite_d, ite_b, ite_o, ite_e]
  simp only [args_hs]
  simp only [mir, dst, fSq, fSet, fRet, fIf, fNil, fTg, fDrop, fPar, eVar, eC, e2, zzz, aNil, eTup, eLst, eCb, zxg, L3.args_nil, zqd, zxe, zxk, zxq, zzc, zyk, zzd, Option.map_some, zye, bd_ok, zyw, zzb, zqa, zqc, zqe, zqy, zyc, zxh, res_d, zyy, zyj, zqb, zqv, zyq, zzh, zxx, tru_b, bNot, bAnd, bOr, eAnd, eOr, eNot, eCh, eFld, List.map_cons, List.map_nil, List.length_cons, List.length_nil, List.replicate, List.cons_append, List.nil_append, List.append_nil, List.getElem?_cons_zero, List.getElem?_cons_succ, List.set_cons_zero, List.set_cons_succ, Option.join_some, Nat.reduceAdd, Nat.reduceSub, Nat.reduceLeDiff, Nat.reduceEqDiff, if_true, if_false, ite_true, ite_false, Bool.not_true, Bool.not_false, Bool.false_eq_true, Nat.zero_add, asD_d, zxf, asL_d, zyx, zxd, asQ_d, zyv, zya, zzv, zxz, zxj, zyd, zyz, zxb, zyb, zzf, zxw, ite_d, ite_b, ite_o, ite_e]
  rw [m_tile, gCnt_lst]
  simp only [mir, dst, fSq, fSet, fRet, fIf, fNil, fTg, fDrop, fPar, eVar, eC, e2, zzz, aNil, eTup, eLst, eCb, zxg, L3.args_nil, zqd, zxe, zxk, zxq, zzc, zyk, zzd, Option.map_some, zye, bd_ok, zyw, zzb, zqa, zqc, zqe, zqy, zyc, zxh, res_d, zyy, zyj, zqb, zqv, zyq, zzh, zxx, tru_b, bNot, bAnd, bOr, eAnd, eOr, eNot, eCh, eFld, List.map_cons, List.map_nil, List.length_cons, List.length_nil, List.replicate, List.cons_append, List.nil_append, List.append_nil, List.getElem?_cons_zero, List.getElem?_cons_succ, List.set_cons_zero, List.set_cons_succ, Option.join_some, Nat.reduceAdd, Nat.reduceSub, Nat.reduceLeDiff, Nat.reduceEqDiff, if_true, if_false, ite_true, ite_false, Bool.not_true, Bool.not_false, Bool.false_eq_true, Nat.zero_add, asD_d, zxf, asL_d, zyx, zxd, asQ_d, zyv, zya, zzv, zxz, zxj, zyd, zyz, zxb, zyb, zzf, zxw, ite_d, ite_b, ite_o, ite_e]
  rfl
noncomputable def jok (j : Int) : Bool := decide (0 ≤ j) && decide (j ≤ 2)
noncomputable def handOk (m c : Int) (ps : List (Int × Int)) (j : Int) : Bool := decide (ps.length ≤ 12) && jok j && (ps.map (tok m c ps)).all id && inOrd ps
theorem iLs_is {f : DS → M DV} {δ : DS} {xs : List D} (h : f δ = rt (.d (.list xs))) : iLs f δ = rt xs := by
  unfold iLs
  rw [h]
  rfl
theorem call_end (y z : DV) (x : D) (fo : List DV → M DV) (b : Bool) (h : fo [.d x] = rt (.d (.bool b))) : bd (bd (rt (Out.nx [some y, some (.d x), some z])) (sqo (fRet (eCb (zxg 1 fo) (zzz (eVar 1) aNil))))) outR = rt (.d (.bool b)) := by
  simp only [mir, dst, fSq, fSet, fRet, fIf, fNil, fTg, fDrop, fPar, eVar, eC, e2, zzz, aNil, eTup, eLst, eCb, zxg, L3.args_nil, zqd, zxe, zxk, zxq, zzc, zyk, zzd, Option.map_some, zye, bd_ok, zyw, zzb, zqa, zqc, zqe, zqy, zyc, zxh, res_d, zyy, zyj, zqb, zqv, zyq, zzh, zxx, tru_b, bNot, bAnd, bOr, eAnd, eOr, eNot, eCh, eFld, List.map_cons, List.map_nil, List.length_cons, List.length_nil, List.replicate, List.cons_append, List.nil_append, List.append_nil, List.getElem?_cons_zero, List.getElem?_cons_succ, List.set_cons_zero, List.set_cons_succ, Option.join_some, Nat.reduceAdd, Nat.reduceSub, Nat.reduceLeDiff, Nat.reduceEqDiff, if_true, if_false, ite_true, ite_false, Bool.not_true, Bool.not_false, Bool.false_eq_true, Nat.zero_add, asD_d, zxf, asL_d, zyx, zxd, asQ_d, zyv, zya, zzv, zxz, zxj, zyd, zyz, zxb, zyb, zzf, zxw, ite_d, ite_b, ite_o, ite_e]
  rw [h]
  simp only [mir, dst, fSq, fSet, fRet, fIf, fNil, fTg, fDrop, fPar, eVar, eC, e2, zzz, aNil, eTup, eLst, eCb, zxg, L3.args_nil, zqd, zxe, zxk, zxq, zzc, zyk, zzd, Option.map_some, zye, bd_ok, zyw, zzb, zqa, zqc, zqe, zqy, zyc, zxh, res_d, zyy, zyj, zqb, zqv, zyq, zzh, zxx, tru_b, bNot, bAnd, bOr, eAnd, eOr, eNot, eCh, eFld, List.map_cons, List.map_nil, List.length_cons, List.length_nil, List.replicate, List.cons_append, List.nil_append, List.append_nil, List.getElem?_cons_zero, List.getElem?_cons_succ, List.set_cons_zero, List.set_cons_succ, Option.join_some, Nat.reduceAdd, Nat.reduceSub, Nat.reduceLeDiff, Nat.reduceEqDiff, if_true, if_false, ite_true, ite_false, Bool.not_true, Bool.not_false, Bool.false_eq_true, Nat.zero_add, asD_d, zxf, asL_d, zyx, zxd, asQ_d, zyv, zya, zzv, zxz, zxj, zyd, zyz, zxb, zyb, zzf, zxw, ite_d, ite_b, ite_o, ite_e]
theorem m_hand (C : Addr) (m c j : Int) (ps : List (Int × Int)) (hl : ps.length ≤ 1000) : M_is_hand C [hs C m c, .d (.list (ps.map pr)), .d (.int j)] = rt (.d (.bool (handOk m c ps j))) := by
  have ho := m_order ps hl
  unfold M_is_hand F_is_hand
  generalize M_is_in_order = fo at ho ⊢
  simp only [mir, dst, fSq, fSet, fRet, fIf, fNil, fTg, fDrop, fPar, eVar, eC, e2, zzz, aNil, eTup, eLst, eCb, zxg, L3.args_nil, zqd, zxe, zxk, zxq, zzc, zyk, zzd, Option.map_some, zye, bd_ok, zyw, zzb, zqa, zqc, zqe, zqy, zyc, zxh, res_d, zyy, zyj, zqb, zqv, zyq, zzh, zxx, tru_b, bNot, bAnd, bOr, eAnd, eOr, eNot, eCh, eFld, List.map_cons, List.map_nil, List.length_cons, List.length_nil, List.replicate, List.cons_append, List.nil_append, List.append_nil, List.getElem?_cons_zero, List.getElem?_cons_succ, List.set_cons_zero, List.set_cons_succ, Option.join_some, Nat.reduceAdd, Nat.reduceSub, Nat.reduceLeDiff, Nat.reduceEqDiff, if_true, if_false, ite_true, ite_false, Bool.not_true, Bool.not_false, Bool.false_eq_true, Nat.zero_add, asD_d, zxf, asL_d, zyx, zxd, asQ_d, zyv, zya, zzv, zxz, zxj, zyd, zyz, zxb, zyb, zzf, zxw, ite_d, ite_b, ite_o, ite_e]
  rw [gLen_prs]
  simp only [mir, dst, fSq, fSet, fRet, fIf, fNil, fTg, fDrop, fPar, eVar, eC, e2, zzz, aNil, eTup, eLst, eCb, zxg, L3.args_nil, zqd, zxe, zxk, zxq, zzc, zyk, zzd, Option.map_some, zye, bd_ok, zyw, zzb, zqa, zqc, zqe, zqy, zyc, zxh, res_d, zyy, zyj, zqb, zqv, zyq, zzh, zxx, tru_b, bNot, bAnd, bOr, eAnd, eOr, eNot, eCh, eFld, List.map_cons, List.map_nil, List.length_cons, List.length_nil, List.replicate, List.cons_append, List.nil_append, List.append_nil, List.getElem?_cons_zero, List.getElem?_cons_succ, List.set_cons_zero, List.set_cons_succ, Option.join_some, Nat.reduceAdd, Nat.reduceSub, Nat.reduceLeDiff, Nat.reduceEqDiff, if_true, if_false, ite_true, ite_false, Bool.not_true, Bool.not_false, Bool.false_eq_true, Nat.zero_add, asD_d, zxf, asL_d, zyx, zxd, asQ_d, zyv, zya, zzv, zxz, zxj, zyd, zyz, zxb, zyb, zzf, zxw, ite_d, ite_b, ite_o, ite_e]
  have ej : (decide (0 ≤ j) && decide (j ≤ 2)) = jok j := rfl
  have el : (decide ((12 : Int) < (ps.length : Int))) = !decide (ps.length ≤ 12) := by
    by_cases h : ps.length ≤ 12
    · rw [decide_eq_true h, decide_eq_false (by lia)]; rfl
    · rw [decide_eq_false h, decide_eq_true (by lia)]; rfl
  rw [ej, el]
  unfold handOk
  cases h12 : decide (ps.length ≤ 12) with
  | false =>
    simp only [Bool.not_false, Bool.true_or, if_true, Bool.false_and]
    simp only [mir, dst, fSq, fSet, fRet, fIf, fNil, fTg, fDrop, fPar, eVar, eC, e2, zzz, aNil, eTup, eLst, eCb, zxg, L3.args_nil, zqd, zxe, zxk, zxq, zzc, zyk, zzd, Option.map_some, zye, bd_ok, zyw, zzb, zqa, zqc, zqe, zqy, zyc, zxh, res_d, zyy, zyj, zqb, zqv, zyq, zzh, zxx, tru_b, bNot, bAnd, bOr, eAnd, eOr, eNot, eCh, eFld, List.map_cons, List.map_nil, List.length_cons, List.length_nil, List.replicate, List.cons_append, List.nil_append, List.append_nil, List.getElem?_cons_zero, List.getElem?_cons_succ, List.set_cons_zero, List.set_cons_succ, Option.join_some, Nat.reduceAdd, Nat.reduceSub, Nat.reduceLeDiff, Nat.reduceEqDiff, if_true, if_false, ite_true, ite_false, Bool.not_true, Bool.not_false, Bool.false_eq_true, Nat.zero_add, asD_d, zxf, asL_d, zyx, zxd, asQ_d, zyv, zya, zzv, zxz, zxj, zyd, zyz, zxb, zyb, zzf, zxw, ite_d, ite_b, ite_o, ite_e]
  | true =>
    cases hj : jok j with
    | false =>
      simp only [Bool.not_true, Bool.not_false, Bool.false_or, if_true, Bool.and_false, Bool.false_and]
      simp only [mir, dst, fSq, fSet, fRet, fIf, fNil, fTg, fDrop, fPar, eVar, eC, e2, zzz, aNil, eTup, eLst, eCb, zxg, L3.args_nil, zqd, zxe, zxk, zxq, zzc, zyk, zzd, Option.map_some, zye, bd_ok, zyw, zzb, zqa, zqc, zqe, zqy, zyc, zxh, res_d, zyy, zyj, zqb, zqv, zyq, zzh, zxx, tru_b, bNot, bAnd, bOr, eAnd, eOr, eNot, eCh, eFld, List.map_cons, List.map_nil, List.length_cons, List.length_nil, List.replicate, List.cons_append, List.nil_append, List.append_nil, List.getElem?_cons_zero, List.getElem?_cons_succ, List.set_cons_zero, List.set_cons_succ, Option.join_some, Nat.reduceAdd, Nat.reduceSub, Nat.reduceLeDiff, Nat.reduceEqDiff, if_true, if_false, ite_true, ite_false, Bool.not_true, Bool.not_false, Bool.false_eq_true, Nat.zero_add, asD_d, zxf, asL_d, zyx, zxd, asQ_d, zyv, zya, zzv, zxz, zxj, zyd, zyz, zxb, zyb, zzf, zxw, ite_d, ite_b, ite_o, ite_e]
    | true =>
      simp only [Bool.not_true, Bool.false_or, Bool.false_eq_true, if_false, Bool.true_and]
      simp only [mir, dst, fSq, fSet, fRet, fIf, fNil, fTg, fDrop, fPar, eVar, eC, e2, zzz, aNil, eTup, eLst, eCb, zxg, L3.args_nil, zqd, zxe, zxk, zxq, zzc, zyk, zzd, Option.map_some, zye, bd_ok, zyw, zzb, zqa, zqc, zqe, zqy, zyc, zxh, res_d, zyy, zyj, zqb, zqv, zyq, zzh, zxx, tru_b, bNot, bAnd, bOr, eAnd, eOr, eNot, eCh, eFld, List.map_cons, List.map_nil, List.length_cons, List.length_nil, List.replicate, List.cons_append, List.nil_append, List.append_nil, List.getElem?_cons_zero, List.getElem?_cons_succ, List.set_cons_zero, List.set_cons_succ, Option.join_some, Nat.reduceAdd, Nat.reduceSub, Nat.reduceLeDiff, Nat.reduceEqDiff, if_true, if_false, ite_true, ite_false, Bool.not_true, Bool.not_false, Bool.false_eq_true, Nat.zero_add, asD_d, zxf, asL_d, zyx, zxd, asQ_d, zyv, zya, zzv, zxz, zxj, zyd, zyz, zxb, zyb, zzf, zxw, ite_d, ite_b, ite_o, ite_e]
      rw [eComp_is (iLs_is rfl) (by rw [List.length_map]; lia) (hand_comp C m c j ps)]
      simp only [mir, dst, fSq, fSet, fRet, fIf, fNil, fTg, fDrop, fPar, eVar, eC, e2, zzz, aNil, eTup, eLst, eCb, zxg, L3.args_nil, zqd, zxe, zxk, zxq, zzc, zyk, zzd, Option.map_some, zye, bd_ok, zyw, zzb, zqa, zqc, zqe, zqy, zyc, zxh, res_d, zyy, zyj, zqb, zqv, zyq, zzh, zxx, tru_b, bNot, bAnd, bOr, eAnd, eOr, eNot, eCh, eFld, List.map_cons, List.map_nil, List.length_cons, List.length_nil, List.replicate, List.cons_append, List.nil_append, List.append_nil, List.getElem?_cons_zero, List.getElem?_cons_succ, List.set_cons_zero, List.set_cons_succ, Option.join_some, Nat.reduceAdd, Nat.reduceSub, Nat.reduceLeDiff, Nat.reduceEqDiff, if_true, if_false, ite_true, ite_false, Bool.not_true, Bool.not_false, Bool.false_eq_true, Nat.zero_add, asD_d, zxf, asL_d, zyx, zxd, asQ_d, zyv, zya, zzv, zxz, zxj, zyd, zyz, zxb, zyb, zzf, zxw, ite_d, ite_b, ite_o, ite_e]
      rw [gAll_is]
      simp only [mir, dst, fSq, fSet, fRet, fIf, fNil, fTg, fDrop, fPar, eVar, eC, e2, zzz, aNil, eTup, eLst, eCb, zxg, L3.args_nil, zqd, zxe, zxk, zxq, zzc, zyk, zzd, Option.map_some, zye, bd_ok, zyw, zzb, zqa, zqc, zqe, zqy, zyc, zxh, res_d, zyy, zyj, zqb, zqv, zyq, zzh, zxx, tru_b, bNot, bAnd, bOr, eAnd, eOr, eNot, eCh, eFld, List.map_cons, List.map_nil, List.length_cons, List.length_nil, List.replicate, List.cons_append, List.nil_append, List.append_nil, List.getElem?_cons_zero, List.getElem?_cons_succ, List.set_cons_zero, List.set_cons_succ, Option.join_some, Nat.reduceAdd, Nat.reduceSub, Nat.reduceLeDiff, Nat.reduceEqDiff, if_true, if_false, ite_true, ite_false, Bool.not_true, Bool.not_false, Bool.false_eq_true, Nat.zero_add, asD_d, zxf, asL_d, zyx, zxd, asQ_d, zyv, zya, zzv, zxz, zxj, zyd, zyz, zxb, zyb, zzf, zxw, ite_d, ite_b, ite_o, ite_e]
      cases ha : (ps.map (tok m c ps)).all id with
      | false =>
        simp only [Bool.not_false, if_true, Bool.false_and]
        simp only [mir, dst, fSq, fSet, fRet, fIf, fNil, fTg, fDrop, fPar, eVar, eC, e2, zzz, aNil, eTup, eLst, eCb, zxg, L3.args_nil, zqd, zxe, zxk, zxq, zzc, zyk, zzd, Option.map_some, zye, bd_ok, zyw, zzb, zqa, zqc, zqe, zqy, zyc, zxh, res_d, zyy, zyj, zqb, zqv, zyq, zzh, zxx, tru_b, bNot, bAnd, bOr, eAnd, eOr, eNot, eCh, eFld, List.map_cons, List.map_nil, List.length_cons, List.length_nil, List.replicate, List.cons_append, List.nil_append, List.append_nil, List.getElem?_cons_zero, List.getElem?_cons_succ, List.set_cons_zero, List.set_cons_succ, Option.join_some, Nat.reduceAdd, Nat.reduceSub, Nat.reduceLeDiff, Nat.reduceEqDiff, if_true, if_false, ite_true, ite_false, Bool.not_true, Bool.not_false, Bool.false_eq_true, Nat.zero_add, asD_d, zxf, asL_d, zyx, zxd, asQ_d, zyv, zya, zzv, zxz, zxj, zyd, zyz, zxb, zyb, zzf, zxw, ite_d, ite_b, ite_o, ite_e]
      | true =>
        simp only [Bool.not_true, Bool.false_eq_true, if_false, Bool.true_and]
        exact call_end _ _ _ _ _ ho
theorem as_prs : ∀ {l : List D}, (∀ x ∈ l, ∃ p, pr p = x) → ∃ qs : List (Int × Int), l = qs.map pr
  | [], _ => ⟨[], rfl⟩
  | x :: r, h => by
    obtain ⟨p, hp⟩ := h x List.mem_cons_self
    obtain ⟨qs, hq⟩ := as_prs (l := r) fun y hy => h y (List.mem_cons_of_mem _ hy)
    exact ⟨p :: qs, by rw [List.map_cons, hp, hq]⟩
theorem srt_prs (ps : List (Int × Int)) : ∃ qs : List (Int × Int), srt (ps.map pr) = qs.map pr ∧ qs.length = ps.length := by
  obtain ⟨qs, hq⟩ := as_prs (l := srt (ps.map pr)) fun x hx => by
    obtain ⟨p, _, e⟩ := List.mem_map.mp ((srt_perm _).mem_iff.mp hx)
    exact ⟨p, e⟩
  refine ⟨qs, hq, ?_⟩
  have := (srt_perm (ps.map pr)).length_eq
  rw [hq, List.length_map, List.length_map] at this
  exact this
theorem all_kT (ps : List (Int × Int)) : (ps.map pr).all (fun y => (kT y).isSome && decide ((kO y).length ≠ 0)) = true := by
  rw [List.all_map, List.all_eq_true]
  intro p _
  rfl
theorem gSrt_is {x : DV} {ps : List (Int × Int)} (hx : asL x = some (ps.map pr)) (hl : ps.length < 64) : gSrt [x] = rt (.new (srt (ps.map pr))) := by
  unfold gSrt
  simp only [hx, zzb, zye]
  exact if_pos ⟨by rw [List.length_map]; exact hl, all_kT ps⟩
theorem ord_adj {ps : List (Int × Int)} (h : inOrd ps = true) : L3.Ord (ps.map pr) := by
  have adj : ∀ k, k + 1 < ps.length → ll (kO (pr (ps.getD (k + 1) (0, 0)))) (kO (pr (ps.getD k (0, 0)))) = false := fun k hk => by
    have := List.all_eq_true.mp h k (List.mem_range.mpr (by lia))
    show ll [(ps.getD (k + 1) (0, 0)).1, (ps.getD (k + 1) (0, 0)).2] [(ps.getD k (0, 0)).1, (ps.getD k (0, 0)).2] = false
    simpa [le] using this
  have far : ∀ d i, i + d < ps.length → ll (kO (pr (ps.getD (i + d) (0, 0)))) (kO (pr (ps.getD i (0, 0)))) = false := fun d => by
    induction d with
    | zero => exact fun i _ => ll_irr _
    | succ d ih => exact fun i hi => nl_trans (ih i (by lia)) (adj (i + d) (by lia))
  unfold L3.Ord
  rw [List.pairwise_map, List.pairwise_iff_getElem]
  intro i j hi hj hij
  have := far (j - i) i (by lia)
  rw [show i + (j - i) = j by lia] at this
  simpa [hi, hj] using this
theorem adj_ord {ps : List (Int × Int)} (h : L3.Ord (ps.map pr)) : inOrd ps = true := by
  unfold L3.Ord at h
  rw [List.pairwise_map, List.pairwise_iff_getElem] at h
  unfold inOrd
  rw [List.all_eq_true]
  intro k hk
  have hk := List.mem_range.mp hk
  have := h k (k + 1) (by lia) (by lia) (by lia)
  unfold le
  have e1 : ps.getD k (0, 0) = ps[k]'(by lia) := by simp [show k < ps.length by lia]
  have e2 : ps.getD (k + 1) (0, 0) = ps[k + 1]'(by lia) := by simp [show k + 1 < ps.length by lia]
  rw [e1, e2]
  have this' : ll [(ps[k + 1]'(by lia)).1, (ps[k + 1]'(by lia)).2] [(ps[k]'(by lia)).1, (ps[k]'(by lia)).2] = false := this
  rw [this']
  rfl
theorem sorted_iff {ps qs : List (Int × Int)} (hq : srt (ps.map pr) = qs.map pr) : decide (ps = qs) = inOrd ps := by
  cases h : inOrd ps with
  | true =>
    have o1 := ord_adj h
    have e := ord_one (srt_perm (ps.map pr)).symm o1 (srt_ord _) fun x hx => by
      obtain ⟨p, _, rfl⟩ := List.mem_map.mp hx
      rfl
    rw [hq] at e
    refine decide_eq_true ?_
    have := congrArg (fun l => l.map fun d => (kO d)) e
    have inj : ∀ (xs ys : List (Int × Int)), xs.map pr = ys.map pr → xs = ys := fun xs ys e => by
      have := eqv_prs xs ys
      rw [e, eqv_prs] at this
      simpa using this.symm
    exact inj _ _ e
  | false =>
    refine decide_eq_false fun e => ?_
    subst e
    have := adj_ord (hq ▸ srt_ord (ps.map pr))
    rw [h] at this; cases this
theorem gEq_prs (neg : Bool) (ps qs : List (Int × Int)) (x : DV) (hx : asQ x = some (.list (qs.map pr))) : gEq neg (.d (.list (ps.map pr))) x = rt (.d (.bool (if neg = true then !decide (ps = qs) else decide (ps = qs)))) := by
  unfold gEq
  rw [hx]
  simp only [asQ_d]
  have hd : (PyData.list (ps.map pr)).depth ≤ 60 := by
    have := depth_prs ps
    unfold PyData.depth
    lia
  rw [if_pos hd]
  have he : PyData.eqv (.list (ps.map pr)) (.list (qs.map pr)) = decide (ps = qs) := eqv_prs ps qs
  rw [he]
end LW
set_option Elab.async false
set_option linter.all false
set_option maxRecDepth 100000
set_option maxHeartbeats 1000000
set_option autoImplicit false
namespace LW
open PySem PySem.Spec L2 L3
section
variable {F G : DS → M Out} {f fa fb fc : DS → M DV} {fr : DS → M (List DV)} {gc : DS → M Bool} {g : DV → DV → M DV} {δ δ' : DS} {x y z : DV} {k : Bool}
theorem sq_nx (h : F δ = rt (.nx δ')) : fSq F G δ = G δ' := by unfold fSq; rw [h]; rfl
theorem sq_rt (h : F δ = rt (.rt x)) : fSq F G δ = rt (.rt x) := by unfold fSq; rw [h]; rfl
theorem if_is (h : gc δ = rt k) : fIf gc F G δ = if k = true then F δ else G δ := by unfold fIf; rw [h]; rfl
theorem set_is {i : Nat} (h : f δ = rt x) (ha : asgn x = some y) : fSet i f δ = rt (.nx (δ.set i (some y))) := by unfold fSet; rw [h, zye, ha]; rfl
theorem ret_is (h : f δ = rt x) : fRet f δ = rt (.rt x) := by unfold fRet; rw [h]; rfl
theorem zkq (h1 : fa δ = rt x) (h2 : fb δ = rt y) : e2 g fa fb δ = g x y := by unfold e2; rw [h1, zye, h2]; rfl
theorem a1_is (h1 : fa δ = rt x) : zzz fa aNil δ = rt [x] := by unfold zzz; rw [h1]; rfl
theorem a2_is (h1 : fa δ = rt x) (h2 : fb δ = rt y) : zzz fa (zzz fb aNil) δ = rt [x, y] := by
  have := a1_is h2
  unfold zzz at this ⊢
  rw [h1, zye, this]; rfl
theorem a3_is (h1 : fa δ = rt x) (h2 : fb δ = rt y) (h3 : fc δ = rt z) : zzz fa (zzz fb (zzz fc aNil)) δ = rt [x, y, z] := by
  have := a2_is h2 h3
  unfold zzz at this ⊢
  rw [h1, zye, this]; rfl
theorem cb_is {G : List DV → M DV} {xs : List DV} (h : fr δ = rt xs) : eCb G fr δ = G xs := by unfold eCb; rw [h]; rfl
theorem call_is {n : Nat} {fm : List DV → M DV} {xs ys : List DV} (h : fr δ = rt xs) (ha : args xs = some ys) (hn : ys.length = n) (hm : fm ys = rt x) : eCb (zxg n fm) fr δ = rt x := by
  rw [cb_is h]
  unfold zxg
  rw [ha, zzb, zye, if_pos hn, hm]; rfl
theorem t2_is {a b : D} (h1 : fa δ = rt (.d a)) (h2 : fb δ = rt (.d b)) : eTup (zzz fa (zzz fb aNil)) δ = rt (.d (.tuple [a, b])) := by
  unfold eTup
  rw [a2_is h1 h2]
  rfl
theorem tst_is {b : Bool} (h : f δ = rt (.d (.bool b))) : (fun δ => bd (f δ) tru) δ = rt b := by
  show bd (f δ) tru = _
  rw [h]; rfl
theorem and_is {ga gb : DS → M Bool} {a b : Bool} (h1 : ga δ = rt a) (h2 : gb δ = rt b) : bAnd ga gb δ = rt (a && b) := by
  unfold bAnd
  rw [h1, zye, h2, ite_b]
theorem or_is {ga gb : DS → M Bool} {a b : Bool} (h1 : ga δ = rt a) (h2 : gb δ = rt b) : bOr ga gb δ = rt (a || b) := by
  unfold bOr
  rw [h1, zye, h2, ite_o]
theorem not_is {ga : DS → M Bool} {a : Bool} (h1 : ga δ = rt a) : bNot ga δ = rt (!a) := by
  unfold bNot
  rw [h1, zye]
theorem mixE {cell k many : Int} (h1 : fa δ = rt (.d (.int cell))) (h2 : fb δ = rt (.d (.int k))) (h3 : fc δ = rt (.d (.int many))) (hm : 0 < many) : ∃ r, eCb (zxg 3 zzw) (zzz fa (zzz fb (zzz fc aNil))) δ = rt (.d (.int r)) ∧ 0 ≤ r ∧ r < many := by
  obtain ⟨r, h, h0, hr⟩ := m_mix cell k many hm
  exact ⟨r, call_is (a3_is h1 h2 h3) rfl rfl h, h0, hr⟩
theorem cellE {K : PySem.W.Frag} {ns : List Int} {k : Int} (h1 : fa δ = rt (.scr K ns)) (h2 : fb δ = rt (.d (.int k))) (hk : 0 ≤ k) : eCb (zxg 2 (zzy K)) (zzz fa (zzz fb aNil)) δ = rt (.d (.int (cellAt ns k))) :=
  call_is (a2_is h1 h2) rfl rfl (m_cell K ns k hk)
theorem app_is {i : Nat} {xs : List D} {d : D} (hi : δ[i]? = some (some (.own xs))) (h : f δ = rt x) (hd : asD x = some d) (hl : xs.length < 1000000) : fApp i f δ = rt (.nx (δ.set i (some (.own (xs ++ [d]))))) := by
  unfold fApp
  rw [hi]
  simp only
  rw [h, zye, hd, zzb, zye, if_pos hl]
theorem cat_is {xs ys : List D} (h0 : gAdd x y = none) (hx : asL x = some xs) (hy : asL y = some ys) (hl : xs.length + ys.length ≤ 1000000) : gPlus x y = rt (.new (xs ++ ys)) := by
  unfold gPlus gOr
  rw [h0]
  unfold gCat
  rw [hx, hy]
  exact if_pos hl
end
theorem gLen_own (ps : List (Int × Int)) : gLen [.own (ps.map pr)] = rt (.d (.int (ps.length : Int))) := by
  show rt (DV.d (.int ((ps.map pr).length : Int))) = _
  rw [List.length_map]
theorem gEq_int (a b : Int) : gEq false (.d (.int a)) (.d (.int b)) = rt (.d (.bool (a == b))) := rfl
noncomputable def tB : DS → M Out := fIf (bAnd (fun δ => bd (e2 gLtD (eCnt (eVar 2) (eVar 3)) (eC (.int 2)) δ) tru) (fun δ => bd (e2 gLtD (eCb gLen (zzz (eVar 2) aNil)) (eVar 1) δ) tru)) (fApp 2 (eVar 3)) fNil
theorem cnt_is {fo fe : DS → M DV} {δ : DS} {x y : DV} {xs : List D} (h1 : fo δ = rt x) (hx : asL x = some xs) (h2 : fe δ = rt y) : eCnt fo fe δ = gCnt x y := by
  unfold eCnt
  rw [h1, zye, hx, zzb, zye, h2, zye]
end LW
set_option Elab.async false
set_option linter.all false
set_option maxRecDepth 100000
set_option maxHeartbeats 1000000
set_option autoImplicit false
namespace LW
open PySem PySem.Spec L2 L3
noncomputable def hB (K : PySem.W.Frag) : DS → M Out := (fSq (fSet 7 (eCb (zxg 2 (zzy K)) (zzz (eVar 0) (zzz (e2 gPlus (eVar 1) (eVar 6)) aNil)))) (fSq (fTg (sTup 2 (sCons (zjq 8) (sCons (zjq 9) sNil))) (eTup (zzz (e2 gPlus (eC (.int 1)) (eCb (zxg 3 (zzw)) (zzz (eVar 7) (zzz (eC (.int 1)) (zzz (eVar 2) aNil))))) (zzz (eCb (zxg 3 (zzw)) (zzz (eVar 7) (zzz (eC (.int 2)) (zzz (eVar 3) aNil)))) aNil)))) (fSq (fSet 10 (e2 gPlus (eC (.int 2)) (eCb (zxg 3 (zzw)) (zzz (eVar 7) (zzz (eC (.int 3)) (zzz (eC (.int 4)) aNil)))))) (fSq (fIf (fun δ => bd (e2 (gEq false) (eCb (zxg 3 (zzw)) (zzz (eVar 7) (zzz (eC (.int 4)) (zzz (eC (.int 2)) aNil)))) (eC (.int 0)) δ) tru) (fSet 5 (e2 gPlus (eVar 5) (eComp 1 [9] (iR2 (zzz (eVar 8) (zzz (e2 gPlus (eCb gMin (zzz (eVar 2) (zzz (e2 gSub (e2 gPlus (eVar 8) (eVar 10)) (eC (.int 1))) aNil))) (eC (.int 1))) aNil))) (zjq 0) bYes (eTup (zzz (eVar 0) (zzz (eVar 1) aNil)))))) (fSet 5 (e2 gPlus (eVar 5) (eComp 1 [8, 7] (iR1 (zzz (eVar 3) aNil)) (zjq 0) (fun δ => bd (e2 gGt (eCb (zxg 3 (zzw)) (zzz (eVar 2) (zzz (e2 gPlus (eC (.int 10)) (eVar 0)) (zzz (eC (.int 4)) aNil)))) (eC (.int 0)) δ) tru) (eTup (zzz (eVar 1) (zzz (eVar 0) aNil))))))) (fIf (fun δ => bd (e2 (gEq false) (eCb (zxg 3 (zzw)) (zzz (eVar 7) (zzz (eC (.int 5)) (zzz (eC (.int 3)) aNil)))) (eC (.int 0)) δ) tru) (fApp 5 (eTup (zzz (e2 gPlus (eC (.int 1)) (eCb (zxg 3 (zzw)) (zzz (eVar 7) (zzz (eC (.int 6)) (zzz (eVar 2) aNil))))) (zzz (eCb (zxg 3 (zzw)) (zzz (eVar 7) (zzz (eC (.int 7)) (zzz (eVar 3) aNil)))) aNil)))) fNil)))))
section
variable (K : PySem.W.Frag) (ns : List Int) (m c st lim : Int)
noncomputable def hδ (ts : List (Int × Int)) (x6 x7 x8 x9 x10 : Option DV) : DS := [some (.scr K ns), some (.d (.int st)), some (.d (.int m)), some (.d (.int c)), some (.d (.int lim)), some (.own (ts.map pr)), x6, x7, x8, x9, x10]
theorem comp_filby {α : Type} {f : α → D} {gc : DS → M Bool} {fe : DS → M DV} {δ : DS} {b : α → Bool} {g : α → D} : ∀ {as : List α}, (∀ a ∈ as, gc (δ.set 0 (some (.d (f a)))) = rt (b a) ∧ fe (δ.set 0 (some (.d (f a)))) = rt (.d (g a))) → compD (zjq 0) gc fe δ (as.map f) = some ((as.filter b).map g)
  | [], _ => rfl
  | a :: r, h => by
    obtain ⟨h1, h2⟩ := h a List.mem_cons_self
    have ih := comp_filby (as := r) fun e he => h e (List.mem_cons_of_mem _ he)
    rw [List.map_cons]
    unfold compD
    simp only [zjq]
    rw [h1]
    cases hb : b a with
    | false =>
      rw [List.filter_cons_of_neg (by simp [hb])]
      exact ih
    | true =>
      rw [List.filter_cons_of_pos hb]
      simp only [rt]
      rw [h2, ih]
      rfl
theorem tg_is {sf : D → DS → Option DS} {f : DS → M DV} {δ δ' : DS} {x : DV} {d : D} (h : f δ = rt x) (hd : asD x = some d) (hs : sf d δ = some δ') : fTg sf f δ = rt (.nx δ') := by
  unfold fTg
  rw [h, zye, hd, zzb, zye, hs]
  rfl
variable {m c}
end
end LW
set_option Elab.async false
set_option linter.all false
set_option maxRecDepth 100000
set_option maxHeartbeats 1000000
set_option autoImplicit false
namespace LW
open PySem PySem.Spec L2 L3
end LW
set_option Elab.async false
set_option linter.all false
set_option maxRecDepth 100000
set_option maxHeartbeats 1000000
set_option autoImplicit false
namespace LW
open PySem PySem.Spec L2 L3
section
variable (m c : Int) (ps : List (Int × Int)) (cell : Int)
end
end LW
set_option Elab.async false
set_option linter.all false
set_option maxRecDepth 100000
set_option maxHeartbeats 1000000
set_option autoImplicit false
namespace LW
open PySem PySem.Spec L2 L3
theorem cnt_app (fs : List (Int × Int)) (p z : Int × Int) : cnt (fs ++ [p]) z = cnt fs z + (if p = z then 1 else 0) := by
  unfold cnt
  rw [List.map_append, List.countP_append]
  simp only [List.map_cons, List.map_nil, List.countP_cons, List.countP_nil, eqv_pr]
  by_cases h : p = z <;> simp [h]
theorem trim_turn' (T : Option DV) (lim : Int) (fs : List (Int × Int)) (p : Int × Int) (hl : fs.length ≤ 1000) :
    ∃ fs' : List (Int × Int), tB [T, some (.d (.int lim)), some (.own (fs.map pr)), some (.d (pr p))] = rt (.nx [T, some (.d (.int lim)), some (.own (fs'.map pr)), some (.d (pr p))]) ∧ ((fs' = fs) ∨ (fs' = fs ++ [p] ∧ cnt fs p < 2 ∧ (fs.length : Int) < lim)) := by
  have c1 : eCnt (eVar 2) (eVar 3) [T, some (.d (.int lim)), some (.own (fs.map pr)), some (.d (pr p))] = rt (.d (.int (cnt fs p))) := (cnt_is rfl rfl rfl).trans (gCnt_own fs p)
  have c2 : eCb gLen (zzz (eVar 2) aNil) [T, some (.d (.int lim)), some (.own (fs.map pr)), some (.d (pr p))] = rt (.d (.int (fs.length : Int))) := (cb_is (a1_is rfl)).trans (gLen_own fs)
  have t1 : (bAnd (fun δ => bd (e2 gLtD (eCnt (eVar 2) (eVar 3)) (eC (.int 2)) δ) tru) (fun δ => bd (e2 gLtD (eCb gLen (zzz (eVar 2) aNil)) (eVar 1) δ) tru)) [T, some (.d (.int lim)), some (.own (fs.map pr)), some (.d (pr p))] = rt (decide (cnt fs p < 2) && decide ((fs.length : Int) < lim)) := by
    exact and_is (tst_is ((zkq (y := .d (.int 2)) c1 rfl).trans (zzf _ _))) (tst_is ((zkq (y := .d (.int lim)) c2 rfl).trans (zzf _ _)))
  unfold tB
  rw [if_is t1]
  by_cases h : (decide (cnt fs p < 2) && decide ((fs.length : Int) < lim)) = true
  · rw [if_pos h]
    refine ⟨fs ++ [p], ?_, .inr ⟨rfl, ?_⟩⟩
    · rw [app_is (xs := fs.map pr) (x := .d (pr p)) (d := pr p) rfl rfl rfl (by rw [List.length_map]; lia)]
      rw [List.map_append]
      rfl
    · rw [Bool.and_eq_true] at h
      exact ⟨of_decide_eq_true h.1, of_decide_eq_true h.2⟩
  · rw [if_neg h]
    exact ⟨fs, rfl, .inl rfl⟩
theorem trim_loop' (P : Int × Int → Prop) (T : Option DV) (lim : Int) (h1 : 0 ≤ lim) (h2 : lim ≤ 900) : ∀ (qs fs : List (Int × Int)) (x : Option DV), (fs.length : Int) ≤ lim → (∀ p ∈ fs, P p) → (∀ p ∈ qs, P p) → (∀ p, cnt fs p ≤ 2) →
    ∃ (fs' : List (Int × Int)) (x' : Option DV), loopD (zjq 3) tB (qs.map pr) [T, some (.d (.int lim)), some (.own (fs.map pr)), x] = rt (.nx [T, some (.d (.int lim)), some (.own (fs'.map pr)), x']) ∧ (fs'.length : Int) ≤ lim ∧ (∀ p ∈ fs', P p) ∧ (∀ p, cnt fs' p ≤ 2)
  | [], fs, x, hf, hP, _, hC => ⟨fs, x, rfl, hf, hP, hC⟩
  | p :: qs, fs, x, hf, hP, hQ, hC => by
    obtain ⟨fs1, e1, h⟩ := trim_turn' T lim fs p (by lia)
    have hf1 : (fs1.length : Int) ≤ lim := by
      rcases h with h | ⟨h, _, h'⟩
      · rw [h]; exact hf
      · rw [h, List.length_append, List.length_singleton]; lia
    have hP1 : ∀ p ∈ fs1, P p := by
      rcases h with h | ⟨h, _, h'⟩
      · rw [h]; exact hP
      · rw [h]
        intro z hz
        rcases List.mem_append.mp hz with hz | hz
        · exact hP z hz
        · rw [List.mem_singleton.mp hz]; exact hQ p List.mem_cons_self
    have hC1 : ∀ p, cnt fs1 p ≤ 2 := by
      rcases h with h | ⟨h, hc, h'⟩
      · rw [h]; exact hC
      · rw [h]
        intro z
        rw [cnt_app]
        split
        · rename_i hz; rw [← hz]; lia
        · have := hC z; lia
    obtain ⟨fs2, x2, e2, hf2⟩ := trim_loop' P T lim h1 h2 qs fs1 (some (.d (pr p))) hf1 hP1 (fun z hz => hQ z (List.mem_cons_of_mem _ hz)) hC1
    refine ⟨fs2, x2, ?_, hf2⟩
    rw [List.map_cons]
    unfold loopD
    have hs : zjq 3 (pr p) [T, some (.d (.int lim)), some (.own (fs.map pr)), x] = some [T, some (.d (.int lim)), some (.own (fs.map pr)), some (.d (pr p))] := rfl
    rw [hs, zzb, zye, e1, zye, lpo_nx]
    exact e2
theorem m_trim' (P : Int × Int → Prop) (ps : List (Int × Int)) (hps : ∀ p ∈ ps, P p) (lim : Int) (h1 : 0 ≤ lim) (h2 : lim ≤ 12) : ∃ qs : List (Int × Int), zjz [.d (.list (ps.map pr)), .d (.int lim)] = rt (.new (qs.map pr)) ∧ qs.length ≤ 12 ∧ (∀ p ∈ qs, P p) ∧ (∀ p, cnt qs p ≤ 2) ∧ inOrd qs = true := by
  obtain ⟨fs, x, e, hf, hP, hC⟩ := trim_loop' P (some (.d (.list (ps.map pr)))) lim h1 (by lia) ps [] none (by simpa using h1) (by simp) hps (fun p => by show (0 : Int) ≤ 2; decide)
  obtain ⟨qs, hq, hl⟩ := srt_prs fs
  have hperm : (qs.map pr).Perm (fs.map pr) := by rw [← hq]; exact srt_perm _
  refine ⟨qs, ?_, by lia, fun p hp => ?_, fun p => ?_, ?_⟩
  rotate_left
  · obtain ⟨z, hz, e⟩ := List.mem_map.mp (hperm.mem_iff.mp (List.mem_map_of_mem hp))
    rw [← pr_inj e]; exact hP z hz
  · have : cnt qs p = cnt fs p := by unfold cnt; rw [hperm.countP_eq]
    rw [this]; exact hC p
  · exact adj_ord (by rw [← hq]; exact srt_ord _)
  unfold zjz F__law_trimmed mir
  have s1 : fSet 2 (eLst aNil) [some (.d (.list (ps.map pr))), some (.d (.int lim)), none, none] = rt (.nx [some (.d (.list (ps.map pr))), some (.d (.int lim)), some (.own []), none]) := rfl
  have s2 : fFor (iLs (eVar 0)) (zjq 3) tB [some (.d (.list (ps.map pr))), some (.d (.int lim)), some (.own []), none] = rt (.nx [some (.d (.list (ps.map pr))), some (.d (.int lim)), some (.own (fs.map pr)), x]) := by
    unfold fFor
    rw [iLs_is (xs := ps.map pr) rfl, zye]
    exact e
  have s3 : fRet (eCb gSrt (zzz (eVar 2) aNil)) [some (.d (.list (ps.map pr))), some (.d (.int lim)), some (.own (fs.map pr)), x] = rt (.rt (.new (qs.map pr))) := by
    refine ret_is ((cb_is (a1_is (x := .own (fs.map pr)) rfl)).trans ?_)
    rw [gSrt_is (ps := fs) rfl (by lia), hq]
  have hd : dst ["tiles", "limit", "found", "tile"] [.d (.list (ps.map pr)), .d (.int lim)] = [some (.d (.list (ps.map pr))), some (.d (.int lim)), none, none] := rfl
  rw [hd, show (fIf (bAnd (fun δ => bd (e2 gLtD (eCnt (eVar 2) (eVar 3)) (eC (.int 2)) δ) tru) (fun δ => bd (e2 gLtD (eCb gLen (zzz (eVar 2) aNil)) (eVar 1) δ) tru)) (fApp 2 (eVar 3)) fNil) = tB from rfl]
  rw [sq_nx s1, sq_nx s2, s3]
  rfl
section
variable (K : PySem.W.Frag) (ns : List Int) (m c st lim : Int)
theorem run_comp' (δ : DS) (num hi col : Int) (h0 : 0 ≤ num) (h1 : num ≤ 20) (h2 : hi ≤ 20) (h3 : -5 ≤ hi) (hd : δ[9]? = some (some (.d (.int col)))) {fi : DS → M (List DV)} (hf : fi δ = rt [.d (.int num), .d (.int hi)]) :
    ∃ qs : List (Int × Int), eComp 1 [9] (iR2 fi) (zjq 0) bYes (eTup (zzz (eVar 0) (zzz (eVar 1) aNil))) δ = rt (.new (qs.map pr)) ∧ qs.length ≤ 20 ∧ (∀ p ∈ qs, p.2 = col ∧ num ≤ p.1 ∧ p.1 < hi) := by
  refine ⟨(List.range (hi - num).toNat).map fun (k : Nat) => (num + (k : Int), col), ?_, by simp; lia, fun p hp => ?_⟩
  rotate_left
  · obtain ⟨k, hk, rfl⟩ := List.mem_map.mp hp
    have := List.mem_range.mp hk
    exact ⟨rfl, by show num ≤ num + (k : Int); lia, by show num + (k : Int) < hi; lia⟩
  refine eComp_is (iR2_is hf (by lia) (by lia) (by lia) (by lia)) (by rw [runI_len]; lia) ?_
  unfold runI subD
  rw [List.map_map]
  refine comp_by fun k hk => ?_
  have e : ([9].map fun j => (δ[j]?).join) = [some (.d (.int col))] := by
    simp only [List.map_cons, List.map_nil, hd, Option.join_some]
  rw [e]
  exact t2_is rfl rfl
theorem grp_comp' (δ : DS) (num cell : Int) (h1 : c ≤ 10) (h0 : 0 ≤ c) (hd8 : δ[8]? = some (some (.d (.int num)))) (hd7 : δ[7]? = some (some (.d (.int cell)))) {fi : DS → M (List DV)} (hf : fi δ = rt [.d (.int c)]) :
    ∃ qs : List (Int × Int), eComp 1 [8, 7] (iR1 fi) (zjq 0) (fun δ => bd (e2 gGt (eCb (zxg 3 (zzw)) (zzz (eVar 2) (zzz (e2 gPlus (eC (.int 10)) (eVar 0)) (zzz (eC (.int 4)) aNil)))) (eC (.int 0)) δ) tru) (eTup (zzz (eVar 1) (zzz (eVar 0) aNil))) δ = rt (.new (qs.map pr)) ∧ qs.length ≤ 20 ∧ (∀ p ∈ qs, p.1 = num ∧ 0 ≤ p.2 ∧ p.2 < c) := by
  have hmix : ∀ k : Int, ∃ r, zzw [.d (.int cell), .d (.int k), .d (.int 4)] = rt (.d (.int r)) := fun k => let ⟨r, h, _⟩ := m_mix cell k 4 (by decide); ⟨r, h⟩
  let mx : Int → Int := fun k => (hmix k).choose
  have hmx : ∀ k, zzw [.d (.int cell), .d (.int k), .d (.int 4)] = rt (.d (.int (mx k))) := fun k => (hmix k).choose_spec
  refine ⟨((List.range c.toNat).filter fun (k : Nat) => decide (0 < mx (10 + (0 + (k : Int))))).map fun (k : Nat) => (num, 0 + (k : Int)), ?_, ?_, fun p hp => ?_⟩
  · refine eComp_is (iR1_is hf (by lia) (by lia)) (by rw [runI_len]; lia) ?_
    unfold runI subD
    have e : ([8, 7].map fun j => (δ[j]?).join) = [some (.d (.int num)), some (.d (.int cell))] := by
      simp only [List.map_cons, List.map_nil, hd8, hd7, Option.join_some]
    rw [e, List.map_map]
    refine comp_filby fun k hk => ⟨?_, t2_is rfl rfl⟩
    exact tst_is ((zkq (y := .d (.int 0)) (call_is (a3_is (y := .d (.int (10 + (0 + (k : Int))))) rfl ((zkq (x := .d (.int 10)) (y := .d (.int (0 + (k : Int)))) rfl rfl).trans (zzv _ _)) rfl) rfl rfl (hmx (10 + (0 + (k : Int))))) rfl).trans (zxb _ _))
  · rw [List.length_map]
    have := List.length_filter_le (fun (k : Nat) => decide (0 < mx (10 + (0 + (k : Int))))) (List.range c.toNat)
    rw [List.length_range] at this
    lia
  · obtain ⟨k, hk, rfl⟩ := List.mem_map.mp hp
    have := List.mem_range.mp (List.mem_filter.mp hk).1
    exact ⟨rfl, by show (0 : Int) ≤ 0 + (k : Int); lia, by show 0 + (k : Int) < c; lia⟩
variable {m c}
theorem hand_if1' (hm : 1 ≤ m) (hm' : m ≤ 13) (hc : 1 ≤ c) (hc' : c ≤ 4) (k cell num col size : Int) (hcol : 0 ≤ col) (hcol' : col < c) (hn : 1 ≤ num) (hn' : num ≤ m) (hs : 2 ≤ size) (hs' : size ≤ 5) (ts : List (Int × Int)) (hl : ts.length ≤ 500) (hP : ∀ p ∈ ts, tileOk m c p = true) :
    ∃ ts' : List (Int × Int), fIf (fun δ => bd (e2 (gEq false) (eCb (zxg 3 (zzw)) (zzz (eVar 7) (zzz (eC (.int 4)) (zzz (eC (.int 2)) aNil)))) (eC (.int 0)) δ) tru) (fSet 5 (e2 gPlus (eVar 5) (eComp 1 [9] (iR2 (zzz (eVar 8) (zzz (e2 gPlus (eCb gMin (zzz (eVar 2) (zzz (e2 L3.gSub (e2 gPlus (eVar 8) (eVar 10)) (eC (.int 1))) aNil))) (eC (.int 1))) aNil))) (zjq 0) bYes (eTup (zzz (eVar 0) (zzz (eVar 1) aNil)))))) (fSet 5 (e2 gPlus (eVar 5) (eComp 1 [8, 7] (iR1 (zzz (eVar 3) aNil)) (zjq 0) (fun δ => bd (e2 gGt (eCb (zxg 3 (zzw)) (zzz (eVar 2) (zzz (e2 gPlus (eC (.int 10)) (eVar 0)) (zzz (eC (.int 4)) aNil)))) (eC (.int 0)) δ) tru) (eTup (zzz (eVar 1) (zzz (eVar 0) aNil))))))
      (hδ K ns m c st lim ts (some (.d (.int k))) (some (.d (.int cell))) (some (.d (.int num))) (some (.d (.int col))) (some (.d (.int size)))) = rt (.nx (hδ K ns m c st lim ts' (some (.d (.int k))) (some (.d (.int cell))) (some (.d (.int num))) (some (.d (.int col))) (some (.d (.int size))))) ∧ ts'.length ≤ ts.length + 20 ∧ (∀ p ∈ ts', tileOk m c p = true) := by
  obtain ⟨r, hr, _⟩ := mixE (δ := hδ K ns m c st lim ts (some (.d (.int k))) (some (.d (.int cell))) (some (.d (.int num))) (some (.d (.int col))) (some (.d (.int size)))) (fa := eVar 7) (fb := eC (.int 4)) (fc := eC (.int 2)) (cell := cell) (k := 4) (many := 2) rfl rfl rfl (by decide)
  rw [if_is (tst_is ((zkq (y := .d (.int 0)) hr rfl).trans (gEq_int _ _)))]
  have fin : ∀ (qs : List (Int × Int)) (f : DS → M DV), f (hδ K ns m c st lim ts (some (.d (.int k))) (some (.d (.int cell))) (some (.d (.int num))) (some (.d (.int col))) (some (.d (.int size)))) = rt (.new (qs.map pr)) → qs.length ≤ 20 →
      fSet 5 (e2 gPlus (eVar 5) f) (hδ K ns m c st lim ts (some (.d (.int k))) (some (.d (.int cell))) (some (.d (.int num))) (some (.d (.int col))) (some (.d (.int size)))) = rt (.nx (hδ K ns m c st lim (ts ++ qs) (some (.d (.int k))) (some (.d (.int cell))) (some (.d (.int num))) (some (.d (.int col))) (some (.d (.int size))))) := fun qs f h hq => by
    rw [set_is (x := .new (ts.map pr ++ qs.map pr)) (y := .own (ts.map pr ++ qs.map pr)) ((zkq (x := .own (ts.map pr)) (y := .new (qs.map pr)) rfl h).trans (cat_is (xs := ts.map pr) (ys := qs.map pr) rfl rfl rfl (by simp; lia))) rfl]
    unfold hδ
    rw [List.map_append]
    rfl
  by_cases h : (r == 0) = true
  · rw [if_pos h]
    obtain ⟨qs, hq, hql, hqP⟩ := run_comp' (hδ K ns m c st lim ts (some (.d (.int k))) (some (.d (.int cell))) (some (.d (.int num))) (some (.d (.int col))) (some (.d (.int size)))) num ((if num + size - 1 < m then num + size - 1 else m) + 1) col (by lia) (by lia) (by split <;> lia) (by split <;> lia) rfl
      (fi := zzz (eVar 8) (zzz (e2 gPlus (eCb gMin (zzz (eVar 2) (zzz (e2 L3.gSub (e2 gPlus (eVar 8) (eVar 10)) (eC (.int 1))) aNil))) (eC (.int 1))) aNil)) (a2_is rfl (zkq (x := .d (.int (if num + size - 1 < m then num + size - 1 else m))) (y := .d (.int 1)) (cb_is (a2_is (x := .d (.int m)) (y := .d (.int (num + size - 1))) rfl (zkq (x := .d (.int (num + size))) (y := .d (.int 1)) (zkq (x := .d (.int num)) (y := .d (.int size)) rfl rfl) rfl))) rfl))
    refine ⟨ts ++ qs, fin qs _ hq hql, by simp; lia, fun p hp => ?_⟩
    rcases List.mem_append.mp hp with hp | hp
    · exact hP p hp
    · obtain ⟨e1, e2, e3⟩ := hqP p hp
      have hmin : (if num + size - 1 < m then num + size - 1 else m) ≤ m := by split <;> lia
      unfold tileOk; simp; lia
  · rw [if_neg h]
    obtain ⟨qs, hq, hql, hqP⟩ := grp_comp' c (hδ K ns m c st lim ts (some (.d (.int k))) (some (.d (.int cell))) (some (.d (.int num))) (some (.d (.int col))) (some (.d (.int size)))) num cell (by lia) (by lia) rfl rfl (fi := zzz (eVar 3) aNil) (a1_is rfl)
    refine ⟨ts ++ qs, fin qs _ hq hql, by simp; lia, fun p hp => ?_⟩
    rcases List.mem_append.mp hp with hp | hp
    · exact hP p hp
    · obtain ⟨e1, e2, e3⟩ := hqP p hp
      unfold tileOk; simp; lia
theorem hand_if2' (hm : 1 ≤ m) (hm' : m ≤ 13) (hc : 1 ≤ c) (hc' : c ≤ 4) (k cell : Int) (y8 y9 y10 : Option DV) (ts : List (Int × Int)) (hl : ts.length ≤ 900) (hP : ∀ p ∈ ts, tileOk m c p = true) :
    ∃ ts' : List (Int × Int), fIf (fun δ => bd (e2 (gEq false) (eCb (zxg 3 (zzw)) (zzz (eVar 7) (zzz (eC (.int 5)) (zzz (eC (.int 3)) aNil)))) (eC (.int 0)) δ) tru) (fApp 5 (eTup (zzz (e2 gPlus (eC (.int 1)) (eCb (zxg 3 (zzw)) (zzz (eVar 7) (zzz (eC (.int 6)) (zzz (eVar 2) aNil))))) (zzz (eCb (zxg 3 (zzw)) (zzz (eVar 7) (zzz (eC (.int 7)) (zzz (eVar 3) aNil)))) aNil)))) fNil
      (hδ K ns m c st lim ts (some (.d (.int k))) (some (.d (.int cell))) y8 y9 y10) = rt (.nx (hδ K ns m c st lim ts' (some (.d (.int k))) (some (.d (.int cell))) y8 y9 y10)) ∧ ts'.length ≤ ts.length + 1 ∧ (∀ p ∈ ts', tileOk m c p = true) := by
  obtain ⟨r, hr, _⟩ := mixE (δ := hδ K ns m c st lim ts (some (.d (.int k))) (some (.d (.int cell))) y8 y9 y10) (fa := eVar 7) (fb := eC (.int 5)) (fc := eC (.int 3)) (cell := cell) (k := 5) (many := 3) rfl rfl rfl (by decide)
  obtain ⟨r6, h6, a6, b6⟩ := mixE (δ := hδ K ns m c st lim ts (some (.d (.int k))) (some (.d (.int cell))) y8 y9 y10) (fa := eVar 7) (fb := eC (.int 6)) (fc := eVar 2) (cell := cell) (k := 6) (many := m) rfl rfl rfl (by lia)
  obtain ⟨r7, h7, a7, b7⟩ := mixE (δ := hδ K ns m c st lim ts (some (.d (.int k))) (some (.d (.int cell))) y8 y9 y10) (fa := eVar 7) (fb := eC (.int 7)) (fc := eVar 3) (cell := cell) (k := 7) (many := c) rfl rfl rfl (by lia)
  rw [if_is (tst_is ((zkq (y := .d (.int 0)) hr rfl).trans (gEq_int _ _)))]
  by_cases h : (r == 0) = true
  · rw [if_pos h]
    refine ⟨ts ++ [(1 + r6, r7)], ?_, by simp, fun p hp => ?_⟩
    rotate_left
    · rcases List.mem_append.mp hp with hp | hp
      · exact hP p hp
      · rw [List.mem_singleton.mp hp]
        unfold tileOk; simp; lia
    rw [app_is (xs := ts.map pr) (x := .d (pr (1 + r6, r7))) (d := pr (1 + r6, r7)) rfl (t2_is ((zkq (x := .d (.int 1)) (y := .d (.int r6)) rfl h6).trans (zzv _ _)) h7) rfl (by rw [List.length_map]; lia)]
    unfold hδ
    rw [List.map_append]
    rfl
  · rw [if_neg h]
    exact ⟨ts, rfl, by lia, hP⟩
theorem hand_turn' (hm : 1 ≤ m) (hm' : m ≤ 13) (hc : 1 ≤ c) (hc' : c ≤ 4) (k : Int) (hk : 0 ≤ k) (h0 : 0 ≤ st) (ts : List (Int × Int)) (hl : ts.length ≤ 500) (hP : ∀ p ∈ ts, tileOk m c p = true) (x7 x8 x9 x10 : Option DV) :
    ∃ (ts' : List (Int × Int)) (y7 y8 y9 y10 : Option DV), hB K (hδ K ns m c st lim ts (some (.d (.int k))) x7 x8 x9 x10) = rt (.nx (hδ K ns m c st lim ts' (some (.d (.int k))) y7 y8 y9 y10)) ∧ ts'.length ≤ ts.length + 21 ∧ (∀ p ∈ ts', tileOk m c p = true) := by
  have s7 : fSet 7 (eCb (zxg 2 (zzy K)) (zzz (eVar 0) (zzz (e2 gPlus (eVar 1) (eVar 6)) aNil))) (hδ K ns m c st lim ts (some (.d (.int k))) x7 x8 x9 x10) = rt (.nx (hδ K ns m c st lim ts (some (.d (.int k))) (some (.d (.int (cellAt ns (st + k))))) x8 x9 x10)) :=
    set_is (y := .d (.int (cellAt ns (st + k)))) (cellE rfl ((zkq (x := .d (.int st)) (y := .d (.int k)) rfl rfl).trans (zzv _ _)) (by lia)) rfl
  generalize cellAt ns (st + k) = cell at s7
  obtain ⟨r1, h1, a1, b1⟩ := mixE (δ := hδ K ns m c st lim ts (some (.d (.int k))) (some (.d (.int cell))) x8 x9 x10) (fa := eVar 7) (fb := eC (.int 1)) (fc := eVar 2) (cell := cell) (k := 1) (many := m) rfl rfl rfl (by lia)
  obtain ⟨r2, h2, a2, b2⟩ := mixE (δ := hδ K ns m c st lim ts (some (.d (.int k))) (some (.d (.int cell))) x8 x9 x10) (fa := eVar 7) (fb := eC (.int 2)) (fc := eVar 3) (cell := cell) (k := 2) (many := c) rfl rfl rfl (by lia)
  have s89 : fTg (sTup 2 (sCons (zjq 8) (sCons (zjq 9) sNil))) (eTup (zzz (e2 gPlus (eC (.int 1)) (eCb (zxg 3 (zzw)) (zzz (eVar 7) (zzz (eC (.int 1)) (zzz (eVar 2) aNil))))) (zzz (eCb (zxg 3 (zzw)) (zzz (eVar 7) (zzz (eC (.int 2)) (zzz (eVar 3) aNil)))) aNil)))
      (hδ K ns m c st lim ts (some (.d (.int k))) (some (.d (.int cell))) x8 x9 x10) = rt (.nx (hδ K ns m c st lim ts (some (.d (.int k))) (some (.d (.int cell))) (some (.d (.int (1 + r1)))) (some (.d (.int r2))) x10)) :=
    tg_is (t2_is ((zkq (x := .d (.int 1)) (y := .d (.int r1)) rfl h1).trans (zzv _ _)) h2) rfl rfl
  obtain ⟨r3, h3, a3, b3⟩ := mixE (δ := hδ K ns m c st lim ts (some (.d (.int k))) (some (.d (.int cell))) (some (.d (.int (1 + r1)))) (some (.d (.int r2))) x10) (fa := eVar 7) (fb := eC (.int 3)) (fc := eC (.int 4)) (cell := cell) (k := 3) (many := 4) rfl rfl rfl (by decide)
  have s10 : fSet 10 (e2 gPlus (eC (.int 2)) (eCb (zxg 3 (zzw)) (zzz (eVar 7) (zzz (eC (.int 3)) (zzz (eC (.int 4)) aNil))))) (hδ K ns m c st lim ts (some (.d (.int k))) (some (.d (.int cell))) (some (.d (.int (1 + r1)))) (some (.d (.int r2))) x10) = rt (.nx (hδ K ns m c st lim ts (some (.d (.int k))) (some (.d (.int cell))) (some (.d (.int (1 + r1)))) (some (.d (.int r2))) (some (.d (.int (2 + r3)))))) :=
    set_is (y := .d (.int (2 + r3))) ((zkq (x := .d (.int 2)) (y := .d (.int r3)) rfl h3).trans (zzv _ _)) rfl
  obtain ⟨ts1, s11, l1, P1⟩ := hand_if1' K ns st lim hm hm' hc hc' k cell (1 + r1) r2 (2 + r3) a2 b2 (by lia) (by lia) (by lia) (by lia) ts hl hP
  obtain ⟨ts2, s12, l2, P2⟩ := hand_if2' K ns st lim hm hm' hc hc' k cell (some (.d (.int (1 + r1)))) (some (.d (.int r2))) (some (.d (.int (2 + r3)))) ts1 (by lia) P1
  refine ⟨ts2, some (.d (.int cell)), some (.d (.int (1 + r1))), some (.d (.int r2)), some (.d (.int (2 + r3))), ?_, by lia, P2⟩
  unfold hB
  rw [sq_nx s7, sq_nx s89, sq_nx s10, sq_nx s11]
  exact s12
theorem hand_loop' (hm : 1 ≤ m) (hm' : m ≤ 13) (hc : 1 ≤ c) (hc' : c ≤ 4) (hst : 0 ≤ st) : ∀ (ks : List Int) (ts : List (Int × Int)) (x6 x7 x8 x9 x10 : Option DV), (∀ k ∈ ks, 0 ≤ k) → ts.length + 21 * ks.length ≤ 500 → (∀ p ∈ ts, tileOk m c p = true) →
    ∃ (ts' : List (Int × Int)) (y6 y7 y8 y9 y10 : Option DV), loopD (zjq 6) (hB K) (ks.map PyData.int) (hδ K ns m c st lim ts x6 x7 x8 x9 x10) = rt (.nx (hδ K ns m c st lim ts' y6 y7 y8 y9 y10)) ∧ ts'.length ≤ 500 ∧ (∀ p ∈ ts', tileOk m c p = true)
  | [], ts, x6, x7, x8, x9, x10, _, hl, hP => ⟨ts, x6, x7, x8, x9, x10, rfl, by simpa using hl, hP⟩
  | k :: ks, ts, x6, x7, x8, x9, x10, h0, hl, hP => by
    rw [List.length_cons] at hl
    obtain ⟨ts1, y7, y8, y9, y10, e1, l1, P1⟩ := hand_turn' K ns st lim hm hm' hc hc' k (h0 k List.mem_cons_self) hst ts (by lia) hP x7 x8 x9 x10
    obtain ⟨ts2, z6, z7, z8, z9, z10, e2, l2⟩ := hand_loop' hm hm' hc hc' hst ks ts1 (some (.d (.int k))) y7 y8 y9 y10 (fun k' h => h0 k' (List.mem_cons_of_mem _ h)) (by lia) P1
    refine ⟨ts2, z6, z7, z8, z9, z10, ?_, l2⟩
    rw [List.map_cons]
    unfold loopD
    have hs : zjq 6 (.int k) (hδ K ns m c st lim ts x6 x7 x8 x9 x10) = some (hδ K ns m c st lim ts (some (.d (.int k))) x7 x8 x9 x10) := rfl
    rw [hs, zzb, zye, e1, zye, lpo_nx]
    exact e2
end
theorem hand_end' (K : PySem.W.Frag) (ns : List Int) (m c st lim : Int) (h0 : 0 ≤ st) (h1 : 1 ≤ lim) (h12 : lim ≤ 12) (ts : List (Int × Int)) (hP : ∀ p ∈ ts, tileOk m c p = true) (y6 y7 y8 y9 y10 : Option DV) :
    ∃ qs : List (Int × Int), (fun δ => (fRet (eCb (zxg 2 (zjz)) (zzz (eVar 5) (zzz (e2 gPlus (eC (.int 1)) (e2 gMod (eCb (zxg 2 (zzy K)) (zzz (eVar 0) (zzz (e2 gPlus (eVar 1) (eC (.int 3))) aNil))) (eVar 4))) aNil)))) (frz 5 δ)) (hδ K ns m c st lim ts y6 y7 y8 y9 y10) = rt (.rt (.new (qs.map pr))) ∧ qs.length ≤ 12 ∧ (∀ p ∈ qs, tileOk m c p = true) ∧ (∀ p, cnt qs p ≤ 2) ∧ inOrd qs = true := by
  have b0 := Int.emod_nonneg (cellAt ns (st + 3)) (show lim ≠ 0 by lia)
  have b1 := Int.emod_lt_of_pos (cellAt ns (st + 3)) (show 0 < lim by lia)
  obtain ⟨qs, hq, hl⟩ := m_trim' (fun p => tileOk m c p = true) ts hP (1 + cellAt ns (st + 3) % lim) (by lia) (by lia)
  refine ⟨qs, ?_, hl⟩
  have hf : frz 5 (hδ K ns m c st lim ts y6 y7 y8 y9 y10) = [some (.scr K ns), some (.d (.int st)), some (.d (.int m)), some (.d (.int c)), some (.d (.int lim)), some (.d (.list (ts.map pr))), y6, y7, y8, y9, y10] := rfl
  show fRet _ (frz 5 _) = _
  rw [hf]
  refine ret_is (call_is (a2_is (x := .d (.list (ts.map pr))) (y := .d (.int (1 + cellAt ns (st + 3) % lim))) rfl ?_) rfl rfl hq)
  refine (zkq (x := .d (.int 1)) (y := .d (.int (cellAt ns (st + 3) % lim))) rfl ?_).trans (zzv _ _)
  exact (zkq (x := .d (.int (cellAt ns (st + 3)))) (y := .d (.int lim)) (cellE rfl ((zkq (x := .d (.int st)) (y := .d (.int 3)) rfl rfl).trans (zzv _ _)) (by lia)) rfl).trans (gMod_int (by lia))
theorem m_hand_by' (K : PySem.W.Frag) (ns : List Int) (m c st lim : Int) (h0 : 0 ≤ st) (h1 : 1 ≤ lim) (h12 : lim ≤ 12) (hm : 1 ≤ m) (hm' : m ≤ 13) (hc : 1 ≤ c) (hc' : c ≤ 4) :
    ∃ qs : List (Int × Int), zje K [.scr K ns, .d (.int st), .d (.int m), .d (.int c), .d (.int lim)] = rt (.new (qs.map pr)) ∧ qs.length ≤ 12 ∧ (∀ p ∈ qs, tileOk m c p = true) ∧ (∀ p, cnt qs p ≤ 2) ∧ inOrd qs = true := by
  obtain ⟨ts, y6, y7, y8, y9, y10, hlp, htl, hP⟩ := hand_loop' K ns st lim hm hm' hc hc' h0 [0, 1, 2] [] none none none none none (by decide) (by decide) (by simp)
  have s1 : fSet 5 (eLst aNil) [some (.scr K ns), some (.d (.int st)), some (.d (.int m)), some (.d (.int c)), some (.d (.int lim)), none, none, none, none, none, none] = rt (.nx (hδ K ns m c st lim [] none none none none none)) := rfl
  have s2 : fFor (iR1 (zzz (eC (.int 3)) aNil)) (zjq 6) (hB K) (hδ K ns m c st lim [] none none none none none) = rt (.nx (hδ K ns m c st lim ts y6 y7 y8 y9 y10)) := by
    unfold fFor
    rw [iR1_is (j := 3) (a1_is rfl) (by decide) (by decide), zye]
    exact hlp
  have hlen : eCb gLen (zzz (eVar 5) aNil) (hδ K ns m c st lim ts y6 y7 y8 y9 y10) = rt (.d (.int (ts.length : Int))) := (cb_is (a1_is (x := .own (ts.map pr)) rfl)).trans (gLen_own ts)
  have s3 : ∃ ts' : List (Int × Int), fIf (fun δ => bd (e2 (gEq false) (eCb gLen (zzz (eVar 5) aNil)) (eC (.int 0)) δ) tru) (fSet 5 (eLst (zzz (eTup (zzz (eC (.int 1)) (zzz (eC (.int 0)) aNil))) aNil))) fNil (hδ K ns m c st lim ts y6 y7 y8 y9 y10) = rt (.nx (hδ K ns m c st lim ts' y6 y7 y8 y9 y10)) ∧ (∀ p ∈ ts', tileOk m c p = true) := by
    rw [if_is (tst_is ((zkq (y := .d (.int 0)) hlen rfl).trans (gEq_int _ _)))]
    by_cases h : (((ts.length : Int)) == 0) = true
    · rw [if_pos h]
      exact ⟨[(1, 0)], rfl, fun p hp => by rw [List.mem_singleton.mp hp]; unfold tileOk; simp; lia⟩
    · rw [if_neg h]
      exact ⟨ts, rfl, hP⟩
  obtain ⟨ts', s3, hP'⟩ := s3
  have hcell : e2 gMod (eCb (zxg 2 (zzy K)) (zzz (eVar 0) (zzz (e2 gPlus (eVar 1) (eC (.int 3))) aNil))) (eC (.int 9)) (hδ K ns m c st lim ts' y6 y7 y8 y9 y10) = rt (.d (.int (cellAt ns (st + 3) % 9))) :=
    (zkq (x := .d (.int (cellAt ns (st + 3)))) (y := .d (.int 9)) (cellE rfl ((zkq (x := .d (.int st)) (y := .d (.int 3)) rfl rfl).trans (zzv _ _)) (by lia)) rfl).trans (gMod_int (by decide))
  have hif : fIf (fun δ => bd (e2 (gEq false) (e2 gMod (eCb (zxg 2 (zzy K)) (zzz (eVar 0) (zzz (e2 gPlus (eVar 1) (eC (.int 3))) aNil))) (eC (.int 9))) (eC (.int 7)) δ) tru) (fRet (eLst aNil)) fNil (hδ K ns m c st lim ts' y6 y7 y8 y9 y10) = if (cellAt ns (st + 3) % 9 == 7) = true then fRet (eLst aNil) (hδ K ns m c st lim ts' y6 y7 y8 y9 y10) else fNil (hδ K ns m c st lim ts' y6 y7 y8 y9 y10) :=
    if_is (tst_is ((zkq (y := .d (.int 7)) (fb := eC (.int 7)) hcell rfl).trans (gEq_int _ _)))
  obtain ⟨qs, he, hl⟩ := hand_end' K ns m c st lim h0 h1 h12 ts' hP' y6 y7 y8 y9 y10
  unfold zje mir
  have hd : dst ["script", "start", "most", "colours", "limit", "tiles", "k", "cell", "number", "colour", "size"] [.scr K ns, .d (.int st), .d (.int m), .d (.int c), .d (.int lim)] = [some (.scr K ns), some (.d (.int st)), some (.d (.int m)), some (.d (.int c)), some (.d (.int lim)), none, none, none, none, none, none] := rfl
  rw [hd]
  have hF : F__law_hand_by K = fSq (fSet 5 (eLst aNil)) (fSq (fFor (iR1 (zzz (eC (.int 3)) aNil)) (zjq 6) (hB K)) (fSq (fIf (fun δ => bd (e2 (gEq false) (eCb gLen (zzz (eVar 5) aNil)) (eC (.int 0)) δ) tru) (fSet 5 (eLst (zzz (eTup (zzz (eC (.int 1)) (zzz (eC (.int 0)) aNil))) aNil))) fNil) (fSq (fIf (fun δ => bd (e2 (gEq false) (e2 gMod (eCb (zxg 2 (zzy K)) (zzz (eVar 0) (zzz (e2 gPlus (eVar 1) (eC (.int 3))) aNil))) (eC (.int 9))) (eC (.int 7)) δ) tru) (fRet (eLst aNil)) fNil) (fun δ => (fRet (eCb (zxg 2 (zjz)) (zzz (eVar 5) (zzz (e2 gPlus (eC (.int 1)) (e2 gMod (eCb (zxg 2 (zzy K)) (zzz (eVar 0) (zzz (e2 gPlus (eVar 1) (eC (.int 3))) aNil))) (eVar 4))) aNil)))) (frz 5 δ))))) := rfl
  rw [hF, sq_nx s1, sq_nx s2, sq_nx s3]
  by_cases h : (cellAt ns (st + 3) % 9 == 7) = true
  · rw [if_pos h] at hif
    refine ⟨[], ?_, by simp, by simp, fun p => by show (0 : Int) ≤ 2; decide, rfl⟩
    rw [sq_rt (hif.trans (ret_is (x := .new []) rfl))]
    rfl
  · rw [if_neg h] at hif
    refine ⟨qs, ?_, hl⟩
    rw [sq_nx (hif.trans (show fNil _ = rt (.nx _) from rfl))]
    exact (congrArg (fun z => bd z outR) he).trans rfl
end LW
set_option Elab.async false
set_option linter.all false
set_option maxRecDepth 100000
set_option maxHeartbeats 1000000
set_option autoImplicit false
namespace LW
open PySem PySem.Spec L2 L3
section
variable {F G : DS → M Out} {f fa fb fc : DS → M DV} {fr : DS → M (List DV)} {gc : DS → M Bool} {g : DV → DV → M DV} {δ δ' : DS} {x y z : DV} {k : Bool} {r : M Out}
theorem sqN (h : F δ = rt (.nx δ')) (h2 : G δ' = r) : fSq F G δ = r := (sq_nx h).trans h2
theorem ifY (h : gc δ = rt true) (h2 : F δ = r) : fIf gc F G δ = r := (if_is h).trans h2
theorem ifF (h : gc δ = rt false) (h2 : G δ = r) : fIf gc F G δ = r := (if_is h).trans h2
theorem setN {i : Nat} (h : f δ = rt x) (ha : asgn x = some y) (h2 : δ.set i (some y) = δ') : fSet i f δ = rt (.nx δ') := by rw [set_is h ha, h2]
theorem callX_is {n : Nat} {fm : List DV → M DV} {xs ys : List DV} {w : M DV} (h : fr δ = rt xs) (ha : args xs = some ys) (hn : ys.length = n) (hm : fm ys = w) : eCb (gCallX n fm) fr δ = w := by
  rw [cb_is h]
  unfold gCallX
  rw [ha, zzb, zye, if_pos hn, hm]
theorem drop_is (h : f δ = rt x) : fDrop f δ = rt (.nx δ) := by unfold fDrop; rw [h]; rfl
theorem sq_er {c : Value} (h : F δ = some (.error c)) : fSq F G δ = some (.error c) := by unfold fSq; rw [h]; rfl
theorem try_er {C : Addr} (h : F δ = some (.error (.ref C))) : fTry F C k δ = rt (.rt (.d (.bool k))) := by
  unfold fTry
  rw [h]
  exact if_pos rfl
theorem try_rt {C : Addr} (h : F δ = rt (.rt x)) : fTry F C k δ = rt (.rt x) := by
  unfold fTry
  rw [h]; rfl
theorem ret_er {c : Value} (h : f δ = some (.error c)) : fRet f δ = some (.error c) := by unfold fRet; rw [h]; rfl
theorem mir_is {N : List Str} {xs : List DV} (h : F (dst N xs) = rt (.rt x)) : mir N F xs = rt (res x) := by unfold mir; rw [h]; rfl
theorem mir_er {N : List Str} {xs : List DV} {c : Value} (h : F (dst N xs) = some (.error c)) : mir N F xs = some (.error c) := by unfold mir; rw [h]; rfl
theorem or_yes {ga gb : DS → M Bool} (h1 : ga δ = rt true) : bOr ga gb δ = rt true := by unfold bOr; rw [h1]; rfl
theorem or_no {ga gb : DS → M Bool} {b : Bool} (h1 : ga δ = rt false) (h2 : gb δ = rt b) : bOr ga gb δ = rt b := by unfold bOr; rw [h1, zye]; exact h2
theorem and_no {ga gb : DS → M Bool} (h1 : ga δ = rt false) : bAnd ga gb δ = rt false := by unfold bAnd; rw [h1]; rfl
theorem and_yes {ga gb : DS → M Bool} {b : Bool} (h1 : ga δ = rt true) (h2 : gb δ = rt b) : bAnd ga gb δ = rt b := by unfold bAnd; rw [h1, zye]; exact h2
theorem not_is' {ga : DS → M Bool} {a b : Bool} (h1 : ga δ = rt a) (hb : (!a) = b) : bNot ga δ = rt b := by rw [not_is h1, hb]
end
theorem loop_all {i : Nat} {B : DS → M Out} {I : DS → Prop} : ∀ (xs : List D) (δ : DS), (∀ x ∈ xs, ∀ δ, I δ → ∃ δ', B (δ.set i (some (.d x))) = rt (.nx δ') ∧ I δ') → I δ → ∃ δ', loopD (zjq i) B xs δ = rt (.nx δ') ∧ I δ'
  | [], δ, _, hI => ⟨δ, rfl, hI⟩
  | x :: xs, δ, h, hI => by
    obtain ⟨δ1, e1, h1⟩ := h x List.mem_cons_self δ hI
    obtain ⟨δ2, e2, h2⟩ := loop_all xs δ1 (fun y hy => h y (List.mem_cons_of_mem _ hy)) h1
    refine ⟨δ2, ?_, h2⟩
    unfold loopD
    have hs : zjq i x δ = some (δ.set i (some (.d x))) := rfl
    rw [hs, zzb, zye, e1, zye, lpo_nx]
    exact e2
theorem for_is {fi : DS → M (List D)} {sf : D → DS → Option DS} {B : DS → M Out} {δ : DS} {xs : List D} {r : M Out} (h : fi δ = rt xs) (h2 : loopD sf B xs δ = r) : fFor fi sf B δ = r := by
  unfold fFor
  rw [h, zye, h2]
theorem atI_map' {α : Type} {f : α → D} {as : List α} {k : Nat} (h : k < as.length) (d : α) : atI (as.map f) (k : Int) = some (f (as.getD k d)) := by
  rw [atI_map, atI_nn h d]
  rfl
theorem gEq_prs2 {neg : Bool} {ps qs : List (Int × Int)} {x y : DV} (hx : asQ x = some (.list (ps.map pr))) (hy : asQ y = some (.list (qs.map pr))) : gEq neg x y = rt (.d (.bool (if neg = true then !decide (ps = qs) else decide (ps = qs)))) := by
  have h := gEq_prs neg ps qs y hy
  unfold gEq at h ⊢
  rw [hx]
  exact h
theorem mkE {C CB : Addr} {fa fb : DS → M DV} {δ : DS} {m c : Int} (h1 : fa δ = rt (.d (.int m))) (h2 : fb δ = rt (.d (.int c))) (h3 : 3 ≤ m) (h13 : m ≤ 13) (h4 : 1 ≤ c) (h5 : c ≤ 4) : eMkH C CB (zzz fa (zzz fb aNil)) δ = rt (hs C m c) := by
  unfold eMkH
  rw [cb_is (a2_is h1 h2)]
  show (if good m c = true then _ else _) = _
  rw [if_pos (by unfold good; simp; lia)]
  rfl
end LW
set_option Elab.async false
set_option linter.all false
set_option maxRecDepth 100000
set_option maxHeartbeats 1000000
set_option autoImplicit false
namespace LW
open PySem PySem.Spec L2 L3
section
variable {F G : DS → M Out} {B : DS → M Out} {f fe : DS → M DV} {fi : DS → M (List D)} {gc : DS → M Bool} {δ : DS} {r : M Out} {i k : Nat} {js : List Nat}
theorem forN {I : DS → Prop} {xs : List D} (h : fi δ = rt xs) (hI : I δ) (ht : ∀ x ∈ xs, ∀ δ, I δ → ∃ δ', B (δ.set i (some (.d x))) = rt (.nx δ') ∧ I δ') (kk : ∀ δ', I δ' → G δ' = r) : fSq (fFor fi (zjq i) B) G δ = r := by
  obtain ⟨δ', e, h'⟩ := loop_all (i := i) (B := B) xs δ ht hI
  exact sqN (for_is h e) (kk δ' h')
end
theorem eIs_is {T t : String} {fa : DS → M DV} {δ : DS} {x : DV} {b : Bool} (h : fa δ = rt x) (ht : (asQ x).bind tyD = some t) (hb : isT T t = b) : eIs T fa δ = rt (.d (.bool b)) := by
  unfold eIs
  rw [h, zye, ht, zzb, zye, hb]
end LW
namespace LW
open PySem PySem.Spec L2 L3
section
variable {F G : DS → M Out} {f fa fb fc fd fe : DS → M DV} {fr : DS → M (List DV)} {fi : DS → M (List D)} {gc : DS → M Bool} {δ : DS} {Q : DS → Prop} {r : M Out} {i : Nat} {x y z u : DV} {b : Bool}
theorem cat3 {xs ys : List D} (h0 : gAdd x y = none) (hx : asL x = some xs) (hy : asL y = some ys) (hl : xs.length + ys.length ≤ 1000000) : gPlus3 x y = rt (.new (xs ++ ys)) := by
  unfold gPlus3 gOr
  rw [cat_is h0 hx hy hl]
  rfl
theorem a4x (h1 : fa δ = rt x) (h2 : fb δ = rt y) (h3 : fc δ = rt z) (h4 : fd δ = rt u) : zzz fa (zzz fb (zzz fc (zzz fd aNil))) δ = rt [x, y, z, u] := by
  have := a3_is h2 h3 h4
  unfold zzz at this ⊢
  rw [h1, zye, this]; rfl
theorem a5x {v : DV} (h1 : fa δ = rt x) (h2 : fb δ = rt y) (h3 : fc δ = rt z) (h4 : fd δ = rt u) (h5 : fe δ = rt v) : zzz fa (zzz fb (zzz fc (zzz fd (zzz fe aNil)))) δ = rt [x, y, z, u, v] := by
  have := a4x h2 h3 h4 h5
  unfold zzz at this ⊢
  rw [h1, zye, this]; rfl
theorem eqv_ii (a b : Int) : PyData.eqv (.int a) (.int b) = decide (a = b) := by
  unfold PyData.eqv
  by_cases h : a = b
  · subst h; simp
  · simp [h]
theorem run0 (n : Nat) : runI 0 n = (List.range n).map fun (k : Nat) => PyData.int (k : Int) := by
  unfold runI
  refine List.map_congr_left fun k _ => ?_
  rw [Int.zero_add]
end
end LW
set_option Elab.async false
set_option linter.all false
set_option maxRecDepth 100000
set_option maxHeartbeats 1000000
set_option autoImplicit false
namespace LW
open PySem PySem.Spec L2 L3
theorem str_ext {a b : Str} (h : a.cps.toList = b.cps.toList) : a = b := by
  cases a; cases b; simp at h; rw [h]
theorem str_app (a b : Str) : (a ++ b).cps.toList = a.cps.toList ++ b.cps.toList := by
  show (Str.mk (a.cps ++ b.cps)).cps.toList = _
  simp
theorem str_len (a : Str) : a.length = a.cps.toList.length := by unfold Str.length; simp
theorem strOk_iff {z : Str} : PyData.strOk z = true ↔ ∀ n ∈ z.cps.toList, n < 1114112 := by
  unfold PyData.strOk
  rw [Array.all_eq_true']
  simp
noncomputable def fl (c : Nat) (r : List (List Nat)) : List Nat := r.flatMap (c :: ·)
noncomputable def jn (c : Nat) : List (List Nat) → List Nat
  | [] => []
  | x :: r => x ++ fl c r
theorem fl_cons (c : Nat) (x : List Nat) (r : List (List Nat)) : fl c (x :: r) = c :: (x ++ fl c r) := by unfold fl; rw [List.flatMap_cons]; rfl
theorem fl_nil (c : Nat) : fl c [] = [] := rfl
theorem fold_l (c : Nat) : ∀ (r : List Str) (a : Array Nat), (r.foldl (fun acc (p : Str) => acc ++ (⟨#[c]⟩ : Str).cps ++ p.cps) a).toList = a.toList ++ fl c (r.map (·.cps.toList))
  | [], a => by simp [fl_nil]
  | x :: r, a => by
    rw [List.foldl_cons, fold_l c r, List.map_cons, fl_cons]
    simp
theorem join_l (c : Nat) (ps : List Str) : (Txt.join ⟨#[c]⟩ ps).cps.toList = jn c (ps.map (·.cps.toList)) := by
  unfold Txt.join Builtin.Str.glued
  cases ps with
  | nil => rfl
  | cons x r =>
    show (List.foldl _ x.cps r).toList = _
    rw [fold_l]
    rfl
noncomputable def Beg (c : Nat) (l : List Nat) : Prop := l = [] ∨ ∃ r, l = c :: r
theorem fl_beg (c : Nat) (r : List (List Nat)) : Beg c (fl c r) := by
  cases r with
  | nil => exact .inl rfl
  | cons x r => exact .inr ⟨_, fl_cons c x r⟩
theorem cut_one {c : Nat} : ∀ {x y R S : List Nat}, c ∉ x → c ∉ y → Beg c R → Beg c S → x ++ R = y ++ S → x = y ∧ R = S
  | [], [], R, S, _, _, _, _, h => ⟨rfl, h⟩
  | [], b :: y, R, S, _, hy, hR, _, h => by
    rcases hR with e | ⟨r, e⟩
    · rw [e] at h; cases h
    · rw [e] at h
      cases h
      exact absurd List.mem_cons_self hy
  | a :: x, [], R, S, hx, _, _, hS, h => by
    rcases hS with e | ⟨r, e⟩
    · rw [e] at h; cases h
    · rw [e] at h
      cases h
      exact absurd List.mem_cons_self hx
  | a :: x, b :: y, R, S, hx, hy, hR, hS, h => by
    rw [List.cons_append, List.cons_append] at h
    injection h with h1 h2
    obtain ⟨e1, e2⟩ := cut_one (fun z => hx (List.mem_cons_of_mem _ z)) (fun z => hy (List.mem_cons_of_mem _ z)) hR hS h2
    exact ⟨by rw [h1, e1], e2⟩
theorem fl_inj {c : Nat} : ∀ {r s : List (List Nat)}, (∀ x ∈ r, c ∉ x) → (∀ x ∈ s, c ∉ x) → fl c r = fl c s → r = s
  | [], [], _, _, _ => rfl
  | [], y :: s, _, _, h => by rw [fl_cons, fl_nil] at h; cases h
  | x :: r, [], _, _, h => by rw [fl_cons, fl_nil] at h; cases h
  | x :: r, y :: s, hr, hs, h => by
    rw [fl_cons, fl_cons] at h
    injection h with _ h
    obtain ⟨e1, e2⟩ := cut_one (hr x List.mem_cons_self) (hs y List.mem_cons_self) (fl_beg c r) (fl_beg c s) h
    rw [e1, fl_inj (fun z hz => hr z (List.mem_cons_of_mem _ hz)) (fun z hz => hs z (List.mem_cons_of_mem _ hz)) e2]
theorem jn_inj {c : Nat} {r s : List (List Nat)} (hr0 : r ≠ []) (hs0 : s ≠ []) (hr : ∀ x ∈ r, c ∉ x) (hs : ∀ x ∈ s, c ∉ x) (h : jn c r = jn c s) : r = s := by
  cases r with
  | nil => exact absurd rfl hr0
  | cons x r =>
    cases s with
    | nil => exact absurd rfl hs0
    | cons y s => exact fl_inj hr hs (by rw [fl_cons, fl_cons]; exact congrArg (c :: ·) h)
theorem map_l_inj : ∀ {a b : List Str}, a.map (·.cps.toList) = b.map (·.cps.toList) → a = b
  | [], [], _ => rfl
  | [], y :: b, h => by cases h
  | x :: a, [], h => by cases h
  | x :: a, y :: b, h => by
    rw [List.map_cons, List.map_cons] at h
    injection h with h1 h2
    rw [str_ext h1, map_l_inj h2]
theorem split_ne (x y : Str) : Txt.split x y ≠ [] := by
  unfold Txt.split
  split
  · nofun
  · split
    · nofun
    · rw [StrLaws.partsBetween_eq]
      obtain ⟨p, r, e⟩ := StrLaws.partsFrom_ne x y.length 0 (Builtin.Str.occurrences x y 0 x.length (x.length + 1))
      rw [e]; nofun
theorem split_jn (c : Nat) (x : Str) : jn c ((Txt.split x ⟨#[c]⟩).map (·.cps.toList)) = x.cps.toList := by
  rw [← join_l]
  have h := StrLaws.join_split x ⟨#[c]⟩
  unfold Txt.join
  rw [StrLaws.glued_eq_join, h]
theorem split_join {c : Nat} {ws : List Str} (h0 : ws ≠ []) (hf : ∀ w ∈ ws, c ∉ w.cps.toList) : Txt.split (Txt.join ⟨#[c]⟩ ws) ⟨#[c]⟩ = ws := by
  refine map_l_inj (jn_inj (c := c) (by simpa using split_ne _ _) (by simpa using h0) (fun x hx => ?_) (fun x hx => ?_) ?_)
  · obtain ⟨p, hp, rfl⟩ := List.mem_map.mp hx
    exact StrLaws.split_free _ c p hp
  · obtain ⟨p, hp, rfl⟩ := List.mem_map.mp hx
    exact hf p hp
  · rw [split_jn, join_l]
theorem joinOk {c B : Nat} {ws : List Str} (hB : ∀ w ∈ ws, w.length ≤ B) (h : ws.length * B + ws.length ≤ 1000000) : JoinOk ⟨#[c]⟩ ws = true := by
  unfold JoinOk
  rw [StrLaws.joinFits (B := B) hB (by show ws.length * B + ws.length * 1 ≤ 16777216; lia)]
  rfl
theorem fl_mem {c n : Nat} {r : List (List Nat)} (h : n ∈ fl c r) : n = c ∨ ∃ x ∈ r, n ∈ x := by
  unfold fl at h
  obtain ⟨x, hx, hn⟩ := List.mem_flatMap.mp h
  rcases List.mem_cons.mp hn with e | e
  · exact .inl e
  · exact .inr ⟨x, hx, e⟩
theorem jn_mem {c n : Nat} {r : List (List Nat)} (h : n ∈ jn c r) : n = c ∨ ∃ x ∈ r, n ∈ x := by
  cases r with
  | nil => cases h
  | cons x r =>
    rcases List.mem_append.mp h with e | e
    · exact .inr ⟨x, List.mem_cons_self, e⟩
    · rcases fl_mem e with e | ⟨y, hy, e⟩
      · exact .inl e
      · exact .inr ⟨y, List.mem_cons_of_mem _ hy, e⟩
theorem join_ok {c : Nat} (hc : c < 1114112) {ws : List Str} (h : ∀ w ∈ ws, PyData.strOk w = true) : PyData.strOk (Txt.join ⟨#[c]⟩ ws) = true := by
  refine strOk_iff.mpr fun n hn => ?_
  rw [join_l] at hn
  rcases jn_mem hn with e | ⟨x, hx, e⟩
  · rw [e]; exact hc
  · obtain ⟨w, hw, rfl⟩ := List.mem_map.mp hx
    exact strOk_iff.mp (h w hw) n e
end LW
set_option Elab.async false
set_option linter.all false
set_option maxRecDepth 100000
set_option maxHeartbeats 1000000
set_option autoImplicit false
namespace K10
open PySem PySem.Spec L2 L3 LW
open PyProof.Rows hiding St
noncomputable def top (i : Nat) : Stmt := PySem.Challenge.pw_meldhouse_k10_texts_read.main.body.getD i (.Pass ⟨0, 0, 0, 0⟩)
structure Tx (K : PySem.W.Frag) (mg : Str → Option Value) (C : Addr) : Prop where
  cl : Cls K C
  n_colours : NoAttr K C "colours"
  n_most : NoAttr K C "most"
  i_LEAST_NUMBERS : ∃ t, mg "LEAST_NUMBERS" = some (.int 3 t)
  i_MOST_NUMBERS : ∃ t, mg "MOST_NUMBERS" = some (.int 13 t)
  i_LEAST_COLOURS : ∃ t, mg "LEAST_COLOURS" = some (.int 1 t)
  i_MOST_COLOURS : ∃ t, mg "MOST_COLOURS" = some (.int 4 t)
  i_MOST_TILES : ∃ t, mg "MOST_TILES" = some (.int 12 t)
  i_MOST_ALIKE : ∃ t, mg "MOST_ALIKE" = some (.int 2 t)
  i_MOST_JOKERS : ∃ t, mg "MOST_JOKERS" = some (.int 2 t)
  i_LETTERS : ∃ t, mg "LETTERS" = some (.str "abcd" t)
  i_JOKER : ∃ t, mg "JOKER" = some (.str "*" t)
  i_NOTHING : ∃ t, mg "NOTHING" = some (.str "-" t)
  b_ValueError : mg "ValueError" = none
  b_all : mg "all" = none
  b_bool : mg "bool" = none
  b_dict : mg "dict" = none
  b_int : mg "int" = none
  b_isinstance : mg "isinstance" = none
  b_len : mg "len" = none
  b_list : mg "list" = none
  b_max : mg "max" = none
  b_min : mg "min" = none
  b_range : mg "range" = none
  b_sorted : mg "sorted" = none
  b_str : mg "str" = none
  b_tuple : mg "tuple" = none
structure Rx (K : PySem.W.Frag) (mg : Str → Option Value) (E_BadHand E_BadHouse E_BadNote E_MeldError : Addr) : Prop where
  x_BadHand : Xc K mg "BadHand" E_BadHand
  x_BadNote : Xc K mg "BadNote" E_BadNote
  q_BadNote_MeldError : PySem.W.kitOne K (.ref E_BadNote) (.ref E_MeldError) = some true
  m_MeldError : mg "MeldError" = some (.ref E_MeldError)
  q_BadNote_ValueError : PySem.W.kitOne K (.ref E_BadNote) (.type "ValueError") = some true
noncomputable abbrev HsK (P : Program) (w : World) (K : PySem.W.Frag) (mg : Str → Option Value) (base : Heap) (C E_BadHouse : Addr) : Prop := Hs P w K mg base "House" C E_BadHouse good "most" "colours"
section
variable {P : Program} {w : World} {K : PySem.W.Frag} {mg : Str → Option Value} {base : Heap}
noncomputable abbrev s_is_tile : Stmt := top 14
theorem sc_is_tile : FnScope ["house", "tile"] ["house", "tile"] (zzj s_is_tile) := ⟨rfl, rfl, rfl, by decide +kernel, rfl, by decide +kernel, by decide +kernel⟩
theorem h_is_tile {C E_BadHand E_BadHouse E_BadNote E_MeldError : Addr} (T : Tx K mg C) (R : Rx K mg E_BadHand E_BadHouse E_BadNote E_MeldError) (D : Df K mg "is_tile" s_is_tile ["house", "tile"])   : Has P w K mg base 1 "is_tile" 2 (M_is_tile C) := D.has fun f fd Fu => fn0 (k := 0) Fu sc_is_tile rfl fun cdv A outer s H E hr => by
  have hu := hu64 hr
  have nd := sc_is_tile.nd
  refine zyh ?_
  exact st_ret (px_and (px_chain (ov_leX hu) (ov_leX hu) zza (px_ix (zzx 1 (pv 1)) zza) (px_fld (zzx 0 (pv 0)) T.cl T.n_most)) (px_one (px_chain (ov_leX hu) (ov_ltX hu) zza (px_ix (zzx 1 (pv 1)) zza) (px_fld (zzx 0 (pv 0)) T.cl T.n_colours))))
noncomputable abbrev zjx : Stmt := top 15
theorem sc_all_tiles : FnScope ["house", "found", "number"] ["house"] (zzj zjx) := ⟨rfl, rfl, rfl, by decide +kernel, rfl, by decide +kernel, by decide +kernel⟩
noncomputable def F_all_tiles (C : Addr) : DS → M Out := (fSq (fSet 1 (eLst aNil)) (fSq (fFor (iR2 (zzz (eC (.int 1)) (zzz (e2 gPlus3 (eFld C "most" (eVar 0)) (eC (.int 1))) aNil))) (zjq 2) (fExt 1 (eComp 1 [2] (iR1 (zzz (eFld C "colours" (eVar 0)) aNil)) (zjq 0) bYes (eTup (zzz (eVar 1) (zzz (eVar 0) aNil)))))) (fRet (eVar 1))))
noncomputable def M_all_tiles (C : Addr) : List DV → M DV := mir ["house", "found", "number"] (F_all_tiles C)
theorem h_all_tiles {C E_BadHand E_BadHouse E_BadNote E_MeldError : Addr} (T : Tx K mg C) (R : Rx K mg E_BadHand E_BadHouse E_BadNote E_MeldError) (D : Df K mg "all_tiles" zjx ["house"])   : Has P w K mg base 1 "all_tiles" 1 (M_all_tiles C) := D.has fun f fd Fu => fn0 (k := 0) Fu sc_all_tiles rfl fun cdv A outer s H E hr => by
  have hu := hu64 hr
  have nd := sc_all_tiles.nd
  refine zzg ?_ ?_
  · refine zjw (i := 1) ?_ ?_
    · exact nd
    · exact (px_lst zzk)
  · refine zzg ?_ ?_
    · refine st_for PassesOwn.never rfl ?_ (zja (i := 2) (by exact nd) rfl (by first | exact Or.inl rfl | exact Or.inr rfl)) (zjk 2) ?_
      · exact (ix_r2 T.b_range (zzq zza (zzq (px_op ov_plus3 (px_fld (zzx 0 (pv 0)) T.cl T.n_most) zza) zzk)))
      · refine zyh ?_
        refine st_ext (pv 1) ?_
        exact (px_comp (N' := ["colour", "number"]) (CompSc.fit (sc := zzj zjx) (N := ["house", "found", "number"]) ⟨rfl, by decide +kernel, by decide +kernel, by decide +kernel, rfl, by decide +kernel⟩) (by decide) rfl (ix_r1 T.b_range (zzq (px_fld (zzx 0 (pv 0)) T.cl T.n_colours) zzk)) (zjk 0) (sub_name (by decide)) (fun _ _ _ _ => (zja (i := 0) (show List.Nodup (["colour", "number"] : List Str) by decide +kernel) rfl (by first | exact Or.inl rfl | exact Or.inr rfl))) (fun _ _ _ _ => pf_yes) (fun _ _ _ _ => (px_tup (zzq (zzx 1 (pv 1)) (zzq (zzx 0 (pv 0)) zzk)))))
    · refine zyh ?_
      exact st_ret (zzx 1 (pv 1))
noncomputable abbrev zqj : Stmt := top 16
theorem sc_is_in_order : FnScope ["row"] ["row"] (zzj zqj) := ⟨rfl, rfl, rfl, by decide +kernel, rfl, by decide +kernel, by decide +kernel⟩
theorem h_is_in_order {C E_BadHand E_BadHouse E_BadNote E_MeldError : Addr} (T : Tx K mg C) (R : Rx K mg E_BadHand E_BadHouse E_BadNote E_MeldError) (D : Df K mg "is_in_order" zqj ["row"])   : Has P w K mg base 1 "is_in_order" 1 (M_is_in_order) := D.has fun f fd Fu => fn0 (k := 0) Fu sc_is_in_order rfl fun cdv A outer s H E hr => by
  have hu := hu64 hr
  have nd := sc_is_in_order.nd
  refine zyh ?_
  exact st_ret (zkz (cv_all rfl) rfl T.b_all bt_all (zzq (px_comp (N' := ["k", "row"]) (CompSc.fit (sc := zzj zqj) (N := ["row"]) ⟨rfl, by decide +kernel, by decide +kernel, by decide +kernel, rfl, by decide +kernel⟩) (by decide) rfl (ix_r2 T.b_range (zzq zza (zzq (zkz cv_len rfl T.b_len bt_len (zzq (zzx 0 (pv 0)) zzk)) zzk))) (zjk 0) (sub_name (by decide)) (fun _ _ _ _ => (zja (i := 0) (show List.Nodup (["k", "row"] : List Str) by decide +kernel) rfl (by first | exact Or.inl rfl | exact Or.inr rfl))) (fun _ _ _ _ => pf_yes) (fun _ _ _ _ => (px_cmp (ov_leX hu) (px_ix (zzx 1 (pv 1)) (px_op ov_sub (zzx 0 (pv 0)) zza)) (px_ix (zzx 1 (pv 1)) (zzx 0 (pv 0)))))) zzk))
noncomputable abbrev s_is_hand : Stmt := top 17
theorem sc_is_hand : FnScope ["house", "hand", "jokers"] ["house", "hand", "jokers"] (zzj s_is_hand) := ⟨rfl, rfl, rfl, by decide +kernel, rfl, by decide +kernel, by decide +kernel⟩
theorem h_is_hand {C E_BadHand E_BadHouse E_BadNote E_MeldError : Addr} (T : Tx K mg C) (R : Rx K mg E_BadHand E_BadHouse E_BadNote E_MeldError) (D : Df K mg "is_hand" s_is_hand ["house", "hand", "jokers"])  (h_is_tile : Has P w K mg base 1 "is_tile" 2 (M_is_tile C)) (h_is_in_order : Has P w K mg base 1 "is_in_order" 1 (M_is_in_order)) : Has P w K mg base 2 "is_hand" 3 (M_is_hand C) := D.has fun f fd Fu => fn0 (k := 1) Fu sc_is_hand rfl fun cdv A outer s H E hr => by
  have hu := hu64 hr
  have nd := sc_is_hand.nd
  refine zzg ?_ ?_
  · refine st_if ?_ ?_ ?_
    · exact (PWb.pb (pb_or (pb_cmp ov_gt (zkz cv_len rfl T.b_len bt_len (zzq (zzx 1 (pv 1)) zzk)) (px_gi T.i_MOST_TILES)) (pb_or1 (pb_not (pb_chain (ov_leX hu) (ov_leX hu) zza (zzx 2 (pv 2)) (px_gi T.i_MOST_JOKERS))))))
    · refine zyh ?_
      exact st_ret px_bl
    · exact ds_nil
  · refine zzg ?_ ?_
    · refine st_if ?_ ?_ ?_
      · exact (pb_not (pb_val (zkz (cv_all rfl) rfl T.b_all bt_all (zzq (px_comp (N' := ["tile", "house", "hand"]) (CompSc.fit (sc := zzj s_is_hand) (N := ["house", "hand", "jokers"]) ⟨rfl, by decide +kernel, by decide +kernel, by decide +kernel, rfl, by decide +kernel⟩) (by decide) rfl (ix_ls (zzx 1 (pv 1))) (zjk 0) (sub_name (by decide)) (fun _ _ _ _ => (zja (i := 0) (show List.Nodup (["tile", "house", "hand"] : List Str) by decide +kernel) rfl (by first | exact Or.inl rfl | exact Or.inr rfl))) (fun _ _ _ _ => pf_yes) (fun _ _ _ _ => (px_and (zqf (h_is_tile.mono (by decide)) hr (zzq (zzx 1 (pv 1)) (zzq (zzx 0 (pv 0)) zzk))) (px_one (px_cmp (ov_leX hu) (px_count hu (zzx 2 (pv 2)) (zzx 0 (pv 0))) (px_gi T.i_MOST_ALIKE)))))) zzk))))
      · refine zyh ?_
        exact st_ret px_bl
      · exact ds_nil
    · refine zyh ?_
      exact st_ret (zqf (h_is_in_order.mono (by decide)) hr (zzq (zzx 1 (pv 1)) zzk))
noncomputable abbrev zqh : Stmt := top 18
theorem sc_check_hand : FnScope ["house", "hand", "jokers"] ["house", "hand", "jokers"] (zzj zqh) := ⟨rfl, rfl, rfl, by decide +kernel, rfl, by decide +kernel, by decide +kernel⟩
noncomputable def F_check_hand (C : Addr) (E_BadHand : Addr) : DS → M Out := (fIf (bNot (fun δ => bd ((eCb (zxg 3 (M_is_hand C)) (zzz (eVar 0) (zzz (eVar 1) (zzz (eVar 2) aNil)))) δ) tru)) (fun _ => some (.error (.ref E_BadHand))) fNil)
noncomputable def M_check_hand (C : Addr) (E_BadHand : Addr) : List DV → M DV := mir ["house", "hand", "jokers"] (F_check_hand C E_BadHand)
theorem h_check_hand {C E_BadHand E_BadHouse E_BadNote E_MeldError : Addr} (T : Tx K mg C) (R : Rx K mg E_BadHand E_BadHouse E_BadNote E_MeldError) (D : Df K mg "check_hand" zqh ["house", "hand", "jokers"])  (h_is_hand : Has P w K mg base 2 "is_hand" 3 (M_is_hand C)) : HasX P w K mg base 3 "check_hand" 3 (M_check_hand C E_BadHand) := D.hasX fun f fd Fu => fnX (k := 2) Fu sc_check_hand rfl fun cdv A outer s H E hr => by
  have hu := hu64 hr
  have nd := sc_check_hand.nd
  refine zyh ?_
  refine st_if ?_ ?_ ?_
  · exact (pb_not (pb_val (zqf (h_is_hand.mono (by decide)) hr (by refine zzq ?_ ?_; (exact (zzx 0 (pv 0))); (exact (zzq (zzx 1 (pv 1)) (zzq (zzx 2 (pv 2)) zzk)))))))
  · refine zyh ?_
    exact st_raise (makes_fn hr) R.x_BadHand
  · exact ds_nil
noncomputable abbrev zjg : Stmt := top 23
theorem sc_tile_word : FnScope ["tile", "number", "letter"] ["tile"] (zzj zjg) := ⟨rfl, rfl, rfl, by decide +kernel, rfl, by decide +kernel, by decide +kernel⟩
noncomputable def F_tile_word : DS → M Out := (fSq (fSet 1 (e2 gIx (eVar 0) (eC (.int 0)))) (fSq (fSet 2 (e2 gIxC (eC (.str "abcd")) (e2 gIx (eVar 0) (eC (.int 1))))) (fRet (eF2 (eVar 1) (eVar 2)))))
noncomputable def zjf : List DV → M DV := mir ["tile", "number", "letter"] (F_tile_word)
theorem h_tile_word {C E_BadHand E_BadHouse E_BadNote E_MeldError : Addr} (T : Tx K mg C) (R : Rx K mg E_BadHand E_BadHouse E_BadNote E_MeldError) (D : Df K mg "tile_word" zjg ["tile"])   : Has P w K mg base 1 "tile_word" 1 (zjf) := D.has fun f fd Fu => fn0 (k := 0) Fu sc_tile_word rfl fun cdv A outer s H E hr => by
  have hu := hu64 hr
  have nd := sc_tile_word.nd
  refine zzg ?_ ?_
  · refine zjw (i := 1) ?_ ?_
    · exact nd
    · exact (px_ix (zzx 0 (pv 0)) zza)
  · refine zzg ?_ ?_
    · refine zjw (i := 2) ?_ ?_
      · exact nd
      · exact (px_ixC (px_gs T.i_LETTERS (by decide +kernel)) (px_ix (zzx 0 (pv 0)) zza))
    · refine zyh ?_
      exact st_ret (px_f2 (zzx 1 (pv 1)) (zzx 2 (pv 2)))
noncomputable abbrev s_shown : Stmt := top 24
theorem sc_shown : FnScope ["house", "hand", "jokers", "words"] ["house", "hand", "jokers"] (zzj s_shown) := ⟨rfl, rfl, rfl, by decide +kernel, rfl, by decide +kernel, by decide +kernel⟩
noncomputable def F_shown (C : Addr) (E_BadHand : Addr) : DS → M Out := (fSq (fDrop (eCb (gCallX 3 (M_check_hand C E_BadHand)) (zzz (eVar 0) (zzz (eVar 1) (zzz (eVar 2) aNil))))) (fSq (fSet 3 (e2 gPlus3 (eComp 1 [] (iLs (eVar 1)) (zjq 0) bYes (eCb (zxg 1 (zjf)) (zzz (eVar 0) aNil))) (e2 gTimes (eLst (zzz (eC (.str "*")) aNil)) (eVar 2)))) (fRet (eIf (fun δ => bd ((eVar 3) δ) truL) (eJoin (eC (.str " ")) (eVar 3)) (eC (.str "-"))))))
noncomputable def M_shown (C : Addr) (E_BadHand : Addr) : List DV → M DV := mir ["house", "hand", "jokers", "words"] (F_shown C E_BadHand)
theorem h_shown {C E_BadHand E_BadHouse E_BadNote E_MeldError : Addr} (T : Tx K mg C) (R : Rx K mg E_BadHand E_BadHouse E_BadNote E_MeldError) (D : Df K mg "shown" s_shown ["house", "hand", "jokers"])  (h_check_hand : HasX P w K mg base 3 "check_hand" 3 (M_check_hand C E_BadHand)) (h_tile_word : Has P w K mg base 1 "tile_word" 1 (zjf)) : HasX P w K mg base 4 "shown" 3 (M_shown C E_BadHand) := D.hasX fun f fd Fu => fnX (k := 3) Fu sc_shown rfl fun cdv A outer s H E hr => by
  have hu := hu64 hr
  have nd := sc_shown.nd
  refine zzg ?_ ?_
  · refine st_expr ?_
    exact (by refine px_hasX (h_check_hand.mono (by decide)) hr pass_on ?_; exact (by refine zzq ?_ ?_; (exact (zzx 0 (pv 0))); (exact (zzq (zzx 1 (pv 1)) (zzq (zzx 2 (pv 2)) zzk)))))
  · refine zzg ?_ ?_
    · refine zjw (i := 3) ?_ ?_
      · exact nd
      · exact (px_op ov_plus3 (px_comp (N' := ["tile"]) (CompSc.fit (sc := zzj s_shown) (N := ["house", "hand", "jokers", "words"]) ⟨rfl, by decide +kernel, by decide +kernel, by decide +kernel, rfl, by decide +kernel⟩) (by decide) rfl (ix_ls (zzx 1 (pv 1))) (zjk 0) (sub_name (by decide)) (fun _ _ _ _ => (zja (i := 0) (show List.Nodup (["tile"] : List Str) by decide +kernel) rfl (by first | exact Or.inl rfl | exact Or.inr rfl))) (fun _ _ _ _ => pf_yes) (fun _ _ _ _ => (zqf (h_tile_word.mono (by decide)) hr (zzq (zzx 0 (pv 0)) zzk)))) (px_op ov_times (px_lst (zzq (px_gs T.i_JOKER (by decide +kernel)) zzk)) (zzx 2 (pv 2))))
    · refine zyh ?_
      exact st_ret (px_if (pb_lst (zzx 3 (pv 3))) (px_join (px_str (by decide +kernel)) (zzx 3 (pv 3))) (px_gs T.i_NOTHING (by decide +kernel)))
noncomputable abbrev s_read : Stmt := top 25
theorem sc_read : FnScope ["house", "text", "tiles", "words", "hand", "jokers"] ["house", "text"] (zzj s_read) := ⟨rfl, rfl, rfl, by decide +kernel, rfl, by decide +kernel, by decide +kernel⟩
noncomputable def F_read (C : Addr) (E_BadHand : Addr) (E_BadNote : Addr) : DS → M Out := (fSq (fSet 2 (eCb gDict (zzz (eComp 1 [] (iLs (eCb (zxg 1 (M_all_tiles C)) (zzz (eVar 0) aNil))) (zjq 0) bYes (eTup (zzz (eCb (zxg 1 (zjf)) (zzz (eVar 0) aNil)) (zzz (eVar 0) aNil)))) aNil))) (fSq (fSet 3 (eSplit (eVar 1) (eC (.str " ")))) (fun δ => (fSq (fSet 4 (eComp 1 [2] (iLs (eVar 3)) (zjq 0) (fun δ => bd (e2 (gInT false) (eVar 0) (eVar 1) δ) tru) (e2 gGet (eVar 1) (eVar 0)))) (fSq (fSet 5 (eCnt (eVar 3) (eC (.str "*")))) (fSq (fIf (fun δ => (bOr (bNot (fun δ => bd ((eCb (zxg 3 (M_is_hand C)) (zzz (eVar 0) (zzz (eVar 4) (zzz (eVar 5) aNil)))) δ) tru)) (fun δ => bd (e2 (gEq true) (eCb (gCallX 3 (M_shown C E_BadHand)) (zzz (eVar 0) (zzz (eVar 4) (zzz (eVar 5) aNil)))) (eVar 1) δ) tru)) (frz 4 δ)) (fun _ => some (.error (.ref E_BadNote))) fNil) (fRet (eTupO (zzz (eVar 4) (zzz (eVar 5) aNil))))))) (frz 3 δ))))
noncomputable def M_read (C : Addr) (E_BadHand : Addr) (E_BadNote : Addr) : List DV → M DV := mir ["house", "text", "tiles", "words", "hand", "jokers"] (F_read C E_BadHand E_BadNote)
theorem h_read {C E_BadHand E_BadHouse E_BadNote E_MeldError : Addr} (T : Tx K mg C) (R : Rx K mg E_BadHand E_BadHouse E_BadNote E_MeldError) (D : Df K mg "read" s_read ["house", "text"])  (h_all_tiles : Has P w K mg base 1 "all_tiles" 1 (M_all_tiles C)) (h_tile_word : Has P w K mg base 1 "tile_word" 1 (zjf)) (h_is_hand : Has P w K mg base 2 "is_hand" 3 (M_is_hand C)) (h_shown : HasX P w K mg base 4 "shown" 3 (M_shown C E_BadHand)) : HasX P w K mg base 5 "read" 2 (M_read C E_BadHand E_BadNote) := D.hasX fun f fd Fu => fnX (k := 4) Fu sc_read rfl fun cdv A outer s H E hr => by
  have hu := hu64 hr
  have nd := sc_read.nd
  refine zzg ?_ ?_
  · refine zjw (i := 2) ?_ ?_
    · exact nd
    · exact (px_callTy (cv_dict rfl) rfl T.b_dict bt_dict (zzq (px_comp (N' := ["tile"]) (CompSc.fit (sc := zzj s_read) (N := ["house", "text", "tiles", "words", "hand", "jokers"]) ⟨rfl, by decide +kernel, by decide +kernel, by decide +kernel, rfl, by decide +kernel⟩) (by decide) rfl (ix_ls (zqf (h_all_tiles.mono (by decide)) hr (zzq (zzx 0 (pv 0)) zzk))) (zjk 0) (sub_name (by decide)) (fun _ _ _ _ => (zja (i := 0) (show List.Nodup (["tile"] : List Str) by decide +kernel) rfl (by first | exact Or.inl rfl | exact Or.inr rfl))) (fun _ _ _ _ => pf_yes) (fun _ _ _ _ => (px_tup (zzq (zqf (h_tile_word.mono (by decide)) hr (zzq (zzx 0 (pv 0)) zzk)) (zzq (zzx 0 (pv 0)) zzk))))) zzk))
  · refine zzg ?_ ?_
    · refine zjw (i := 3) ?_ ?_
      · exact nd
      · exact (px_split (zzx 1 (pv 1)) (px_str (by decide +kernel)))
    · refine ds_frz 3 ?_
      refine zzg ?_ ?_
      · refine st_setC (i := 4) (N' := ["word", "tiles"]) (CompSc.fit (sc := zzj s_read) (N := ["house", "text", "tiles", "words", "hand", "jokers"]) ⟨rfl, by decide +kernel, by decide +kernel, by decide +kernel, rfl, by decide +kernel⟩) (by decide) rfl (by exact nd) (ix_ls (zzx 3 (pv 3))) (zjk 0) (sub_name (by decide)) (fun _ _ _ _ => (zja (i := 0) (show List.Nodup (["word", "tiles"] : List Str) by decide +kernel) rfl (by first | exact Or.inl rfl | exact Or.inr rfl))) (fun _ _ _ _ => pf_one (pb_cmp ov_inT (zzx 0 (pv 0)) (zzx 1 (pv 1)))) (fun _ _ _ _ => (px_get (zzx 1 (pv 1)) (zzx 0 (pv 0))))
      · refine zzg ?_ ?_
        · refine zjw (i := 5) ?_ ?_
          · exact nd
          · exact (px_count hu (zzx 3 (pv 3)) (px_gs T.i_JOKER (by decide +kernel)))
        · refine zzg ?_ ?_
          · refine st_if ?_ ?_ ?_
            · exact (pb_frz 4 (PWb.pb (pb_or (pb_not (pb_val (zqf (h_is_hand.mono (by decide)) hr (by refine zzq ?_ ?_; (exact (zzx 0 (pv 0))); (exact (zzq (zzx 4 (pv 4)) (zzq (zzx 5 (pv 5)) zzk))))))) (pb_or1 (pb_cmp (ov_ne hu) (by refine px_hasX (h_shown.mono (by decide)) hr pass_on ?_; exact (by refine zzq ?_ ?_; (exact (zzx 0 (pv 0))); (exact (zzq (zzx 4 (pv 4)) (zzq (zzx 5 (pv 5)) zzk))))) (zzx 1 (pv 1)))))))
            · refine zyh ?_
              exact st_raise (makes_fn hr) R.x_BadNote
            · exact ds_nil
          · refine zyh ?_
            exact st_ret (px_tupO (zzq (zzx 4 (pv 4)) (zzq (zzx 5 (pv 5)) zzk)))
noncomputable abbrev zqx : Stmt := top 27
theorem sc__law_cell_at : FnScope ["script", "k"] ["script", "k"] (zzj zqx) := ⟨rfl, rfl, rfl, by decide +kernel, rfl, by decide +kernel, by decide +kernel⟩
theorem zxy {C E_BadHand E_BadHouse E_BadNote E_MeldError : Addr} (T : Tx K mg C) (R : Rx K mg E_BadHand E_BadHouse E_BadNote E_MeldError) (D : Df K mg "_law_cell_at" zqx ["script", "k"])   : Has P w K mg base 1 "_law_cell_at" 2 (zzy K) := D.has fun f fd Fu => fn0 (k := 0) Fu sc__law_cell_at rfl fun cdv A outer s H E hr => by
  have hu := hu64 hr
  have nd := sc__law_cell_at.nd
  refine zzg ?_ ?_
  · refine st_if ?_ ?_ ?_
    · exact (pb_cmp (ov_ltX hu) (zzx 1 (pv 1)) (zkz cv_lenS rfl T.b_len bt_len (zzq (zzx 0 (pv 0)) zzk)))
    · refine zyh ?_
      exact st_ret (px_ixS (zzx 0 (pv 0)) (zzx 1 (pv 1)))
    · exact ds_nil
  · refine zyh ?_
    exact st_ret zza
noncomputable abbrev s__law_mix : Stmt := top 28
theorem sc__law_mix : FnScope ["cell", "k", "many", "some", "stir"] ["cell", "k", "many"] (zzj s__law_mix) := ⟨rfl, rfl, rfl, by decide +kernel, rfl, by decide +kernel, by decide +kernel⟩
theorem zxv {C E_BadHand E_BadHouse E_BadNote E_MeldError : Addr} (T : Tx K mg C) (R : Rx K mg E_BadHand E_BadHouse E_BadNote E_MeldError) (D : Df K mg "_law_mix" s__law_mix ["cell", "k", "many"])   : Has P w K mg base 1 "_law_mix" 3 (zzw) := D.has fun f fd Fu => fn0 (k := 0) Fu sc__law_mix rfl fun cdv A outer s H E hr => by
  have hu := hu64 hr
  have nd := sc__law_mix.nd
  refine zzg ?_ ?_
  · refine zjw (i := 3) ?_ ?_
    · exact nd
    · exact (by refine px_lst ?_; (exact (by refine zzq ?_ ?_; (exact (by exact zza)); (exact (by refine zzq ?_ ?_; (exact (by exact zza)); (exact (by refine zzq ?_ ?_; (exact (by exact zza)); (exact (by refine zzq ?_ ?_; (exact (by exact zza)); (exact (by refine zzq ?_ ?_; (exact (by exact zza)); (exact (by refine zzq ?_ ?_; (exact (by exact zza)); (exact (by refine zzq ?_ ?_; (exact (by exact zza)); (exact (by refine zzq ?_ ?_; (exact (by exact zza)); (exact (by refine zzq ?_ ?_; (exact (by exact zza)); (exact (by refine zzq ?_ ?_; (exact (by exact zza)); (exact (by refine zzq ?_ ?_; (exact (by exact zza)); (exact (by refine zzq ?_ ?_; (exact (by exact zza)); (exact (by refine zzq ?_ ?_; (exact (by exact zza)); (exact zzk))))))))))))))))))))))))))))
  · refine zzg ?_ ?_
    · refine zjw (i := 4) ?_ ?_
      · exact nd
      · exact (px_op ov_plus (px_op ov_plus (px_op ov_times (px_op ov_plus (px_op ov_mod (zzx 0 (pv 0)) (by exact zza)) (by exact zza)) (px_ix (zzx 3 (pv 3)) (px_op ov_mod (zzx 1 (pv 1)) zza))) (px_op ov_times (by exact zza) (zzx 1 (pv 1)))) (px_op ov_times (by exact zza) (px_op ov_div (zzx 1 (pv 1)) zza)))
    · refine zzg ?_ ?_
      · refine zjw (i := 4) ?_ ?_
        · exact nd
        · exact (px_op ov_mod (zzx 4 (pv 4)) (by exact zza))
      · refine zyh ?_
        exact st_ret (px_op ov_mod (px_op ov_div (px_op ov_mod (px_op ov_plus (px_op ov_times (zzx 4 (pv 4)) (zzx 4 (pv 4))) (px_op ov_times (by exact zza) (zzx 1 (pv 1)))) (by exact zza)) zza) (zzx 2 (pv 2)))
noncomputable abbrev zqg : Stmt := top 29
theorem sc__law_whole : FnScope ["found"] ["found"] (zzj zqg) := ⟨rfl, rfl, rfl, by decide +kernel, rfl, by decide +kernel, by decide +kernel⟩
theorem h__law_whole {C E_BadHand E_BadHouse E_BadNote E_MeldError : Addr} (T : Tx K mg C) (R : Rx K mg E_BadHand E_BadHouse E_BadNote E_MeldError) (D : Df K mg "_law_whole" zqg ["found"])   : Has P w K mg base 1 "_law_whole" 1 (M__law_whole) := D.has fun f fd Fu => fn0 (k := 0) Fu sc__law_whole rfl fun cdv A outer s H E hr => by
  have hu := hu64 hr
  have nd := sc__law_whole.nd
  refine zyh ?_
  exact st_ret (px_and (px_is (by decide) T.b_isinstance T.b_int bt_int (zzx 0 (pv 0))) (px_one (px_not (px_is (by decide) T.b_isinstance T.b_bool bt_bool (zzx 0 (pv 0))))))
noncomputable abbrev zyg : Stmt := top 30
theorem sc__law_house_by : FnScope ["script", "cell"] ["script"] (zzj zyg) := ⟨rfl, rfl, rfl, by decide +kernel, rfl, by decide +kernel, by decide +kernel⟩
theorem h__law_house_by {C E_BadHand E_BadHouse E_BadNote E_MeldError : Addr} (T : Tx K mg C) (R : Rx K mg E_BadHand E_BadHouse E_BadNote E_MeldError) (D : Df K mg "_law_house_by" zyg ["script"])  (zxy : Has P w K mg base 1 "_law_cell_at" 2 (zzy K)) (zxv : Has P w K mg base 1 "_law_mix" 3 (zzw)) : Has P w K mg base 2 "_law_house_by" 1 (M__law_house_by K) := D.has fun f fd Fu => fn0 (k := 1) Fu sc__law_house_by rfl fun cdv A outer s H E hr => by
  have hu := hu64 hr
  have nd := sc__law_house_by.nd
  refine zzg ?_ ?_
  · refine zjw (i := 1) ?_ ?_
    · exact nd
    · exact (zqf (zxy.mono (by decide)) hr (zzq (zzx 0 (pv 0)) (zzq zza zzk)))
  · refine zyh ?_
    exact st_ret (px_tup (zzq (px_op ov_plus zza (zqf (zxv.mono (by decide)) hr (by refine zzq ?_ ?_; (exact (zzx 1 (pv 1))); (exact (zzq zza (zzq (px_ix (by refine px_lst ?_; (exact (by refine zzq ?_ ?_; (exact zza); (exact (by refine zzq ?_ ?_; (exact zza); (exact (by refine zzq ?_ ?_; (exact zza); (exact (by refine zzq ?_ ?_; (exact zza); (exact zzk)))))))))) (zqf (zxv.mono (by decide)) hr (by refine zzq ?_ ?_; (exact (zzx 1 (pv 1))); (exact (zzq zza (zzq zza zzk)))))) zzk)))))) (zzq (px_op ov_plus zza (zqf (zxv.mono (by decide)) hr (by refine zzq ?_ ?_; (exact (zzx 1 (pv 1))); (exact (zzq zza (zzq zza zzk)))))) zzk)))
noncomputable abbrev zqz : Stmt := top 31
theorem sc__law_trimmed : FnScope ["tiles", "limit", "found", "tile"] ["tiles", "limit"] (zzj zqz) := ⟨rfl, rfl, rfl, by decide +kernel, rfl, by decide +kernel, by decide +kernel⟩
theorem h__law_trimmed {C E_BadHand E_BadHouse E_BadNote E_MeldError : Addr} (T : Tx K mg C) (R : Rx K mg E_BadHand E_BadHouse E_BadNote E_MeldError) (D : Df K mg "_law_trimmed" zqz ["tiles", "limit"])   : Has P w K mg base 1 "_law_trimmed" 2 (zjz) := D.has fun f fd Fu => fn0 (k := 0) Fu sc__law_trimmed rfl fun cdv A outer s H E hr => by
  have hu := hu64 hr
  have nd := sc__law_trimmed.nd
  refine zzg ?_ ?_
  · refine zjw (i := 2) ?_ ?_
    · exact nd
    · exact (px_lst zzk)
  · refine zzg ?_ ?_
    · refine st_for PassesOwn.never rfl ?_ (zja (i := 3) (by exact nd) rfl (by first | exact Or.inl rfl | exact Or.inr rfl)) (zjk 3) ?_
      · exact (ix_ls (zzx 0 (pv 0)))
      · refine zyh ?_
        refine st_if ?_ ?_ ?_
        · exact (PWb.pb (pb_and (pb_cmp (ov_ltX hu) (px_count hu (zzx 2 (pv 2)) (zzx 3 (pv 3))) zza) (pb_and1 (pb_cmp (ov_ltX hu) (zkz cv_len rfl T.b_len bt_len (zzq (zzx 2 (pv 2)) zzk)) (zzx 1 (pv 1))))))
        · refine zyh ?_
          refine st_app (pv 2) ?_
          exact (zzx 3 (pv 3))
        · exact ds_nil
    · refine zyh ?_
      exact st_ret (zkz (cv_sorted hu) rfl T.b_sorted bt_sorted (zzq (zzx 2 (pv 2)) zzk))
noncomputable abbrev zyf : Stmt := top 32
theorem sc__law_hand_by : FnScope ["script", "start", "most", "colours", "limit", "tiles", "k", "cell", "number", "colour", "size"] ["script", "start", "most", "colours", "limit"] (zzj zyf) := ⟨rfl, rfl, rfl, by decide +kernel, rfl, by decide +kernel, by decide +kernel⟩
theorem h__law_hand_by {C E_BadHand E_BadHouse E_BadNote E_MeldError : Addr} (T : Tx K mg C) (R : Rx K mg E_BadHand E_BadHouse E_BadNote E_MeldError) (D : Df K mg "_law_hand_by" zyf ["script", "start", "most", "colours", "limit"])  (zxy : Has P w K mg base 1 "_law_cell_at" 2 (zzy K)) (zxv : Has P w K mg base 1 "_law_mix" 3 (zzw)) (h__law_trimmed : Has P w K mg base 1 "_law_trimmed" 2 (zjz)) : Has P w K mg base 2 "_law_hand_by" 5 (zje K) := D.has fun f fd Fu => fn0 (k := 1) Fu sc__law_hand_by rfl fun cdv A outer s H E hr => by
  have hu := hu64 hr
  have nd := sc__law_hand_by.nd
  refine zzg ?_ ?_
  · refine zjw (i := 5) ?_ ?_
    · exact nd
    · exact (px_lst zzk)
  · refine zzg ?_ ?_
    · refine st_for PassesOwn.never rfl ?_ (zja (i := 6) (by exact nd) rfl (by first | exact Or.inl rfl | exact Or.inr rfl)) (zjk 6) ?_
      · exact (ix_r1 T.b_range (zzq zza zzk))
      · refine zzg ?_ ?_
        · refine zjw (i := 7) ?_ ?_
          · exact nd
          · exact (zqf (zxy.mono (by decide)) hr (zzq (zzx 0 (pv 0)) (zzq (px_op ov_plus (zzx 1 (pv 1)) (zzx 6 (pv 6))) zzk)))
        · refine zzg ?_ ?_
          · refine st_asg ?_ (pg_tup rfl (pgs_cons (zja (i := 8) (by exact nd) rfl (by first | exact Or.inl rfl | exact Or.inr rfl)) (pgs_cons (zja (i := 9) (by exact nd) rfl (by first | exact Or.inl rfl | exact Or.inr rfl)) pgs_nil))) (tg_tup (tg_cons (zjk 8) (tg_cons (zjk 9) tg_nil)))
            exact (px_tup (zzq (px_op ov_plus zza (zqf (zxv.mono (by decide)) hr (by refine zzq ?_ ?_; (exact (zzx 7 (pv 7))); (exact (zzq zza (zzq (zzx 2 (pv 2)) zzk)))))) (zzq (zqf (zxv.mono (by decide)) hr (by refine zzq ?_ ?_; (exact (zzx 7 (pv 7))); (exact (zzq zza (zzq (zzx 3 (pv 3)) zzk))))) zzk)))
          · refine zzg ?_ ?_
            · refine zjw (i := 10) ?_ ?_
              · exact nd
              · exact (px_op ov_plus zza (zqf (zxv.mono (by decide)) hr (by refine zzq ?_ ?_; (exact (zzx 7 (pv 7))); (exact (zzq zza (zzq zza zzk))))))
            · refine zzg ?_ ?_
              · refine st_if ?_ ?_ ?_
                · exact (pb_cmp (ov_eq hu) (zqf (zxv.mono (by decide)) hr (by refine zzq ?_ ?_; (exact (zzx 7 (pv 7))); (exact (zzq zza (zzq zza zzk))))) zza)
                · refine zyh ?_
                  refine zjw (i := 5) ?_ ?_
                  · exact nd
                  · exact (px_op ov_plus (zzx 5 (pv 5)) (px_comp (N' := ["x", "colour"]) (CompSc.fit (sc := zzj zyf) (N := ["script", "start", "most", "colours", "limit", "tiles", "k", "cell", "number", "colour", "size"]) ⟨rfl, by decide +kernel, by decide +kernel, by decide +kernel, rfl, by decide +kernel⟩) (by decide) rfl (ix_r2 T.b_range (zzq (zzx 8 (pv 8)) (zzq (px_op ov_plus (zkz (cv_min rfl) rfl T.b_min bt_min (zzq (zzx 2 (pv 2)) (zzq (px_op ov_sub (px_op ov_plus (zzx 8 (pv 8)) (zzx 10 (pv 10))) zza) zzk))) zza) zzk))) (zjk 0) (sub_name (by decide)) (fun _ _ _ _ => (zja (i := 0) (show List.Nodup (["x", "colour"] : List Str) by decide +kernel) rfl (by first | exact Or.inl rfl | exact Or.inr rfl))) (fun _ _ _ _ => pf_yes) (fun _ _ _ _ => (px_tup (zzq (zzx 0 (pv 0)) (zzq (zzx 1 (pv 1)) zzk))))))
                · refine zyh ?_
                  refine zjw (i := 5) ?_ ?_
                  · exact nd
                  · exact (px_op ov_plus (zzx 5 (pv 5)) (px_comp (N' := ["x", "number", "cell"]) (CompSc.fit (sc := zzj zyf) (N := ["script", "start", "most", "colours", "limit", "tiles", "k", "cell", "number", "colour", "size"]) ⟨rfl, by decide +kernel, by decide +kernel, by decide +kernel, rfl, by decide +kernel⟩) (by decide) rfl (ix_r1 T.b_range (zzq (zzx 3 (pv 3)) zzk)) (zjk 0) (sub_name (by decide)) (fun _ _ _ _ => (zja (i := 0) (show List.Nodup (["x", "number", "cell"] : List Str) by decide +kernel) rfl (by first | exact Or.inl rfl | exact Or.inr rfl))) (fun _ _ _ _ => pf_one (pb_cmp ov_gt (zqf (zxv.mono (by decide)) hr (by refine zzq ?_ ?_; (exact (zzx 2 (pv 2))); (exact (zzq (px_op ov_plus zza (zzx 0 (pv 0))) (zzq zza zzk))))) zza)) (fun _ _ _ _ => (px_tup (zzq (zzx 1 (pv 1)) (zzq (zzx 0 (pv 0)) zzk))))))
              · refine zyh ?_
                refine st_if ?_ ?_ ?_
                · exact (pb_cmp (ov_eq hu) (zqf (zxv.mono (by decide)) hr (by refine zzq ?_ ?_; (exact (zzx 7 (pv 7))); (exact (zzq zza (zzq zza zzk))))) zza)
                · refine zyh ?_
                  refine st_app (pv 5) ?_
                  exact (px_tup (zzq (px_op ov_plus zza (zqf (zxv.mono (by decide)) hr (by refine zzq ?_ ?_; (exact (zzx 7 (pv 7))); (exact (zzq zza (zzq (zzx 2 (pv 2)) zzk)))))) (zzq (zqf (zxv.mono (by decide)) hr (by refine zzq ?_ ?_; (exact (zzx 7 (pv 7))); (exact (zzq zza (zzq (zzx 3 (pv 3)) zzk))))) zzk)))
                · exact ds_nil
    · refine zzg ?_ ?_
      · refine st_if ?_ ?_ ?_
        · exact (pb_cmp (ov_eq hu) (zkz cv_len rfl T.b_len bt_len (zzq (zzx 5 (pv 5)) zzk)) zza)
        · refine zyh ?_
          refine zjw (i := 5) ?_ ?_
          · exact nd
          · exact (px_lst (zzq (px_tup (zzq zza (zzq zza zzk))) zzk))
        · exact ds_nil
      · refine zzg ?_ ?_
        · refine st_if ?_ ?_ ?_
          · exact (pb_cmp (ov_eq hu) (px_op ov_mod (zqf (zxy.mono (by decide)) hr (zzq (zzx 0 (pv 0)) (zzq (px_op ov_plus (zzx 1 (pv 1)) zza) zzk))) zza) zza)
          · refine zyh ?_
            exact st_ret (px_lst zzk)
          · exact ds_nil
        · refine ds_frz 5 ?_
          refine zyh ?_
          exact st_ret (zqf (h__law_trimmed.mono (by decide)) hr (zzq (zzx 5 (pv 5)) (zzq (px_op ov_plus zza (px_op ov_mod (zqf (zxy.mono (by decide)) hr (zzq (zzx 0 (pv 0)) (zzq (px_op ov_plus (zzx 1 (pv 1)) zza) zzk))) (zzx 4 (pv 4)))) zzk)))
noncomputable abbrev zqw : Stmt := top 34
theorem sc__law_spoilt : FnScope ["text", "cell", "signs", "at", "sign", "way", "words", "spot", "odd"] ["text", "cell"] (zzj zqw) := ⟨rfl, rfl, rfl, by decide +kernel, rfl, by decide +kernel, by decide +kernel⟩
noncomputable def F__law_spoilt : DS → M Out := (fSq (fSet 2 (eC (.str " 0123456789abcde*-+_\t\n"))) (fSq (fSet 3 (eCb (zxg 3 (zzw)) (zzz (eVar 1) (zzz (eC (.int 1)) (zzz (e2 gPlus3 (eCb gLenT (zzz (eVar 0) aNil)) (eC (.int 1))) aNil))))) (fSq (fSet 4 (e2 gIxC (eVar 2) (eCb (zxg 3 (zzw)) (zzz (eVar 1) (zzz (eC (.int 2)) (zzz (eCb gLenT (zzz (eVar 2) aNil)) aNil)))))) (fSq (fSet 5 (eCb (zxg 3 (zzw)) (zzz (eVar 1) (zzz (eC (.int 3)) (zzz (eC (.int 6)) aNil))))) (fSq (fIf (fun δ => bd (e2 gLtD (eVar 5) (eC (.int 3)) δ) tru) (fRet (e2 gIx (eLst (zzz (e2 gAddS (e2 gAddS (eCutHT (eVar 0) (eVar 3)) (eVar 4)) (eCutLT (eVar 0) (eVar 3))) (zzz (e2 gAddS (eCutHT (eVar 0) (eVar 3)) (eCutLT (eVar 0) (e2 gPlus3 (eVar 3) (eC (.int 1))))) (zzz (e2 gAddS (e2 gAddS (eCutHT (eVar 0) (eVar 3)) (eVar 4)) (eCutLT (eVar 0) (e2 gPlus3 (eVar 3) (eC (.int 1))))) aNil)))) (eVar 5))) fNil) (fSq (fSet 6 (eSplit (eVar 0) (eC (.str " ")))) (fSq (fSet 7 (eCb (zxg 3 (zzw)) (zzz (eVar 1) (zzz (eC (.int 4)) (zzz (eCb gLen (zzz (eVar 6) aNil)) aNil))))) (fSq (fSet 8 (eLst (zzz (eC (.str "")) (zzz (eC (.str "-")) (zzz (eC (.str "*")) (zzz (eC (.str "01a")) (zzz (eC (.str "1")) (zzz (eC (.str "a")) (zzz (eC (.str "14a")) (zzz (eC (.str "13d")) (zzz (eC (.str "0a")) (zzz (eC (.str "1_0a")) (zzz (eC (.str "+1a")) (zzz (eC (.str "1A")) (zzz (eC (.str "1a\t")) (zzz (eC (.str "3a")) (zzz (eC (.str "1e")) (zzz (eC (.str "1aa")) (zzz (eC (.str "100a")) aNil))))))))))))))))))) (fSq (fSet 8 (e2 gPlus3 (eVar 8) (eLst (zzz (eC (.str "* *")) (zzz (eC (.str "-1a")) (zzz (eC (.str "2b")) aNil)))))) (fSq (fIf (fun δ => bd (e2 (gEq false) (eVar 5) (eC (.int 3)) δ) tru) (fPut 6 (eVar 7) (e2 gIx (eVar 8) (eCb (zxg 3 (zzw)) (zzz (eVar 1) (zzz (eC (.int 5)) (zzz (eC (.int 20)) aNil)))))) fNil) (fSq (fIf (fun δ => bd (e2 (gEq false) (eVar 5) (eC (.int 4)) δ) tru) (fApp 6 (e2 gIx (eVar 8) (eCb (zxg 3 (zzw)) (zzz (eVar 1) (zzz (eC (.int 5)) (zzz (eC (.int 20)) aNil)))))) fNil) (fSq (fIf (fun δ => bd (e2 (gEq false) (eVar 5) (eC (.int 5)) δ) tru) (fInsP 6 (eCb (zxg 3 (zzw)) (zzz (eVar 1) (zzz (eC (.int 6)) (zzz (eCb gLen (zzz (eVar 6) aNil)) aNil)))) (eVar 7)) fNil) (fRet (eJoin (eC (.str " ")) (eVar 6)))))))))))))))
noncomputable def M__law_spoilt : List DV → M DV := mir ["text", "cell", "signs", "at", "sign", "way", "words", "spot", "odd"] (F__law_spoilt)
theorem h__law_spoilt {C E_BadHand E_BadHouse E_BadNote E_MeldError : Addr} (T : Tx K mg C) (R : Rx K mg E_BadHand E_BadHouse E_BadNote E_MeldError) (D : Df K mg "_law_spoilt" zqw ["text", "cell"])  (zxv : Has P w K mg base 1 "_law_mix" 3 (zzw)) : Has P w K mg base 2 "_law_spoilt" 2 (M__law_spoilt) := D.has fun f fd Fu => fn0 (k := 1) Fu sc__law_spoilt rfl fun cdv A outer s H E hr => by
  have hu := hu64 hr
  have nd := sc__law_spoilt.nd
  refine zzg ?_ ?_
  · refine zjw (i := 2) ?_ ?_
    · exact nd
    · exact (px_str (by decide +kernel))
  · refine zzg ?_ ?_
    · refine zjw (i := 3) ?_ ?_
      · exact nd
      · exact (zqf (zxv.mono (by decide)) hr (by refine zzq ?_ ?_; (exact (zzx 1 (pv 1))); (exact (zzq zza (zzq (px_op ov_plus3 (zkz cv_lenT rfl T.b_len bt_len (zzq (zzx 0 (pv 0)) zzk)) zza) zzk)))))
    · refine zzg ?_ ?_
      · refine zjw (i := 4) ?_ ?_
        · exact nd
        · exact (px_ixC (zzx 2 (pv 2)) (zqf (zxv.mono (by decide)) hr (by refine zzq ?_ ?_; (exact (zzx 1 (pv 1))); (exact (zzq zza (zzq (zkz cv_lenT rfl T.b_len bt_len (zzq (zzx 2 (pv 2)) zzk)) zzk))))))
      · refine zzg ?_ ?_
        · refine zjw (i := 5) ?_ ?_
          · exact nd
          · exact (zqf (zxv.mono (by decide)) hr (by refine zzq ?_ ?_; (exact (zzx 1 (pv 1))); (exact (zzq zza (zzq zza zzk)))))
        · refine zzg ?_ ?_
          · refine st_if ?_ ?_ ?_
            · exact (pb_cmp (ov_ltX hu) (zzx 5 (pv 5)) zza)
            · refine zyh ?_
              exact st_ret (px_ix (px_lst (by refine zzq ?_ ?_; (exact (px_op ov_addS (px_op ov_addS (px_cutHT (zzx 0 (pv 0)) (zzx 3 (pv 3))) (zzx 4 (pv 4))) (px_cutLT (zzx 0 (pv 0)) (zzx 3 (pv 3))))); (exact (zzq (px_op ov_addS (px_cutHT (zzx 0 (pv 0)) (zzx 3 (pv 3))) (px_cutLT (zzx 0 (pv 0)) (px_op ov_plus3 (zzx 3 (pv 3)) zza))) (zzq (px_op ov_addS (px_op ov_addS (px_cutHT (zzx 0 (pv 0)) (zzx 3 (pv 3))) (zzx 4 (pv 4))) (px_cutLT (zzx 0 (pv 0)) (px_op ov_plus3 (zzx 3 (pv 3)) zza))) zzk))))) (zzx 5 (pv 5)))
            · exact ds_nil
          · refine zzg ?_ ?_
            · refine zjw (i := 6) ?_ ?_
              · exact nd
              · exact (px_split (zzx 0 (pv 0)) (px_str (by decide +kernel)))
            · refine zzg ?_ ?_
              · refine zjw (i := 7) ?_ ?_
                · exact nd
                · exact (zqf (zxv.mono (by decide)) hr (by refine zzq ?_ ?_; (exact (zzx 1 (pv 1))); (exact (zzq zza (zzq (zkz cv_len rfl T.b_len bt_len (zzq (zzx 6 (pv 6)) zzk)) zzk)))))
              · refine zzg ?_ ?_
                · refine zjw (i := 8) ?_ ?_
                  · exact nd
                  · exact (by refine px_lst ?_; (exact (by refine zzq ?_ ?_; (exact (px_str (by decide +kernel))); (exact (by refine zzq ?_ ?_; (exact (px_str (by decide +kernel))); (exact (by refine zzq ?_ ?_; (exact (px_str (by decide +kernel))); (exact (by refine zzq ?_ ?_; (exact (px_str (by decide +kernel))); (exact (by refine zzq ?_ ?_; (exact (px_str (by decide +kernel))); (exact (by refine zzq ?_ ?_; (exact (px_str (by decide +kernel))); (exact (by refine zzq ?_ ?_; (exact (px_str (by decide +kernel))); (exact (by refine zzq ?_ ?_; (exact (px_str (by decide +kernel))); (exact (by refine zzq ?_ ?_; (exact (px_str (by decide +kernel))); (exact (by refine zzq ?_ ?_; (exact (px_str (by decide +kernel))); (exact (by refine zzq ?_ ?_; (exact (px_str (by decide +kernel))); (exact (by refine zzq ?_ ?_; (exact (px_str (by decide +kernel))); (exact (by refine zzq ?_ ?_; (exact (px_str (by decide +kernel))); (exact (by refine zzq ?_ ?_; (exact (px_str (by decide +kernel))); (exact (by refine zzq ?_ ?_; (exact (px_str (by decide +kernel))); (exact (by refine zzq ?_ ?_; (exact (px_str (by decide +kernel))); (exact (by refine zzq ?_ ?_; (exact (px_str (by decide +kernel))); (exact zzk))))))))))))))))))))))))))))))))))))
                · refine zzg ?_ ?_
                  · refine zjw (i := 8) ?_ ?_
                    · exact nd
                    · exact (px_op ov_plus3 (zzx 8 (pv 8)) (px_lst (by refine zzq ?_ ?_; (exact (px_str (by decide +kernel))); (exact (zzq (px_str (by decide +kernel)) (zzq (px_str (by decide +kernel)) zzk))))))
                  · refine zzg ?_ ?_
                    · refine st_if ?_ ?_ ?_
                      · exact (pb_cmp (ov_eq hu) (zzx 5 (pv 5)) zza)
                      · refine zyh ?_
                        refine st_put (pv 6) ?_ ?_
                        · exact (zzx 7 (pv 7))
                        · exact (px_ix (zzx 8 (pv 8)) (zqf (zxv.mono (by decide)) hr (by refine zzq ?_ ?_; (exact (zzx 1 (pv 1))); (exact (zzq zza (zzq zza zzk))))))
                      · exact ds_nil
                    · refine zzg ?_ ?_
                      · refine st_if ?_ ?_ ?_
                        · exact (pb_cmp (ov_eq hu) (zzx 5 (pv 5)) zza)
                        · refine zyh ?_
                          refine st_app (pv 6) ?_
                          exact (px_ix (zzx 8 (pv 8)) (zqf (zxv.mono (by decide)) hr (by refine zzq ?_ ?_; (exact (zzx 1 (pv 1))); (exact (zzq zza (zzq zza zzk))))))
                        · exact ds_nil
                      · refine zzg ?_ ?_
                        · refine st_if ?_ ?_ ?_
                          · exact (pb_cmp (ov_eq hu) (zzx 5 (pv 5)) zza)
                          · refine zyh ?_
                            refine st_insP (pv 6) (pv 6) ?_ ?_
                            · exact (zqf (zxv.mono (by decide)) hr (by refine zzq ?_ ?_; (exact (zzx 1 (pv 1))); (exact (zzq zza (zzq (zkz cv_len rfl T.b_len bt_len (zzq (zzx 6 (pv 6)) zzk)) zzk)))))
                            · exact (zzx 7 (pv 7))
                          · exact ds_nil
                        · refine zyh ?_
                          exact st_ret (px_join (px_str (by decide +kernel)) (zzx 6 (pv 6)))
noncomputable abbrev zjd : Stmt := top 35
theorem sc__law_tile : FnScope ["word", "most", "colours", "number", "colour"] ["word", "most", "colours"] (zzj zjd) := ⟨rfl, rfl, rfl, by decide +kernel, rfl, by decide +kernel, by decide +kernel⟩
noncomputable def F__law_tile : DS → M Out := (fSq (fFor (iR2 (zzz (eC (.int 1)) (zzz (e2 gPlus3 (eVar 1) (eC (.int 1))) aNil))) (zjq 3) (fFor (iR1 (zzz (eVar 2) aNil)) (zjq 4) (fIf (fun δ => bd (e2 (gEq false) (eVar 0) (e2 gAddS (eCb gStrI (zzz (eVar 3) aNil)) (e2 gIxC (eC (.str "abcd")) (eVar 4))) δ) tru) (fRet (eTup (zzz (eVar 3) (zzz (eVar 4) aNil)))) fNil))) (fRet (eC .none)))
noncomputable def M__law_tile : List DV → M DV := mir ["word", "most", "colours", "number", "colour"] (F__law_tile)
theorem h__law_tile {C E_BadHand E_BadHouse E_BadNote E_MeldError : Addr} (T : Tx K mg C) (R : Rx K mg E_BadHand E_BadHouse E_BadNote E_MeldError) (D : Df K mg "_law_tile" zjd ["word", "most", "colours"])   : Has P w K mg base 1 "_law_tile" 3 (M__law_tile) := D.has fun f fd Fu => fn0 (k := 0) Fu sc__law_tile rfl fun cdv A outer s H E hr => by
  have hu := hu64 hr
  have nd := sc__law_tile.nd
  refine zzg ?_ ?_
  · refine st_for PassesOwn.never rfl ?_ (zja (i := 3) (by exact nd) rfl (by first | exact Or.inl rfl | exact Or.inr rfl)) (zjk 3) ?_
    · exact (ix_r2 T.b_range (zzq zza (zzq (px_op ov_plus3 (zzx 1 (pv 1)) zza) zzk)))
    · refine zyh ?_
      refine st_for PassesOwn.never rfl ?_ (zja (i := 4) (by exact nd) rfl (by first | exact Or.inl rfl | exact Or.inr rfl)) (zjk 4) ?_
      · exact (ix_r1 T.b_range (zzq (zzx 2 (pv 2)) zzk))
      · refine zyh ?_
        refine st_if ?_ ?_ ?_
        · exact (pb_cmp (ov_eq hu) (zzx 0 (pv 0)) (px_op ov_addS (px_callTy cv_strI rfl T.b_str bt_str (zzq (zzx 3 (pv 3)) zzk)) (px_ixC (px_str (by decide +kernel)) (zzx 4 (pv 4)))))
        · refine zyh ?_
          exact st_ret (px_tup (zzq (zzx 3 (pv 3)) (zzq (zzx 4 (pv 4)) zzk)))
        · exact ds_nil
  · refine zyh ?_
    exact st_ret px_non
noncomputable abbrev zjy : Stmt := top 36
theorem sc__law_due : FnScope ["text", "most", "colours", "words", "jokers", "hand"] ["text", "most", "colours"] (zzj zjy) := ⟨rfl, rfl, rfl, by decide +kernel, rfl, by decide +kernel, by decide +kernel⟩
noncomputable def F__law_due : DS → M Out := (fSq (fIf (fun δ => bd (e2 (gEq false) (eVar 0) (eC (.str "-")) δ) tru) (fRet (eTup (zzz (eLst aNil) (zzz (eC (.int 0)) aNil)))) fNil) (fSq (fSet 3 (eSplit (eVar 0) (eC (.str " ")))) (fSq (fSet 4 (eC (.int 0))) (fSq (fWh (bAnd (fun δ => bd (e2 gGt (eCb gLen (zzz (eVar 3) aNil)) (eC (.int 0)) δ) tru) (fun δ => bd (e2 (gEq false) (e2 gIx (eVar 3) (eNeg (eC (.int 1)))) (eC (.str "*")) δ) tru)) (fSq (fPop 3) (fSet 4 (e2 gPlus3 (eVar 4) (eC (.int 1))))) 100) (fun δ => (fSq (fSet 5 (eComp 1 [1, 2] (iLs (eVar 3)) (zjq 0) bYes (eCb (zxg 3 (M__law_tile)) (zzz (eVar 0) (zzz (eVar 1) (zzz (eVar 2) aNil)))))) (fSq (fIf (bOr (fun δ => bd (e2 (gIn false) (eC .none) (eVar 5) δ) tru) (bOr (fun δ => bd (e2 (gEq true) (eVar 5) (eCb gSrt (zzz (eVar 5) aNil)) δ) tru) (bOr (fun δ => bd (e2 gGt (eVar 4) (eC (.int 2)) δ) tru) (fun δ => bd (e2 gGt (eCb gLen (zzz (eVar 5) aNil)) (eC (.int 12)) δ) tru)))) (fRet (eC .none)) fNil) (fun δ => (fSq (fIf (fun δ => bd (e2 gGt (eMaxD 0 (zzz (eComp 1 [5] (iLs (eVar 5)) (zjq 0) bYes (eCnt (eVar 1) (eVar 0))) aNil)) (eC (.int 2)) δ) tru) (fRet (eC .none)) fNil) (fun δ => (fRet (eTup (zzz (eVar 5) (zzz (eVar 4) aNil)))) (frz 5 δ))) (frz 5 δ)))) (frz 3 δ))))))
noncomputable def M__law_due : List DV → M DV := mir ["text", "most", "colours", "words", "jokers", "hand"] (F__law_due)
theorem h__law_due {C E_BadHand E_BadHouse E_BadNote E_MeldError : Addr} (T : Tx K mg C) (R : Rx K mg E_BadHand E_BadHouse E_BadNote E_MeldError) (D : Df K mg "_law_due" zjy ["text", "most", "colours"])  (h__law_tile : Has P w K mg base 1 "_law_tile" 3 (M__law_tile)) : Has P w K mg base 2 "_law_due" 3 (M__law_due) := D.has fun f fd Fu => fn0 (k := 1) Fu sc__law_due rfl fun cdv A outer s H E hr => by
  have hu := hu64 hr
  have nd := sc__law_due.nd
  refine zzg ?_ ?_
  · refine st_if ?_ ?_ ?_
    · exact (pb_cmp (ov_eq hu) (zzx 0 (pv 0)) (px_str (by decide +kernel)))
    · refine zyh ?_
      exact st_ret (px_tup (zzq (px_lst zzk) (zzq zza zzk)))
    · exact ds_nil
  · refine zzg ?_ ?_
    · refine zjw (i := 3) ?_ ?_
      · exact nd
      · exact (px_split (zzx 0 (pv 0)) (px_str (by decide +kernel)))
    · refine zzg ?_ ?_
      · refine zjw (i := 4) ?_ ?_
        · exact nd
        · exact zza
      · refine zzg ?_ ?_
        · refine st_while 100 PassesOwn.never ?_ ?_
          · exact (PWb.pb (pb_and (pb_cmp ov_gt (zkz cv_len rfl T.b_len bt_len (zzq (zzx 3 (pv 3)) zzk)) zza) (pb_and1 (pb_cmp (ov_eq hu) (px_ix (zzx 3 (pv 3)) (px_neg zza)) (px_str (by decide +kernel))))))
          · refine zzg ?_ ?_
            · exact st_pop (pv 3)
            · refine zyh ?_
              refine zjw (i := 4) ?_ ?_
              · exact nd
              · exact (px_op ov_plus3 (zzx 4 (pv 4)) zza)
        · refine ds_frz 3 ?_
          refine zzg ?_ ?_
          · refine zjw (i := 5) ?_ ?_
            · exact nd
            · exact (px_comp (N' := ["word", "most", "colours"]) (CompSc.fit (sc := zzj zjy) (N := ["text", "most", "colours", "words", "jokers", "hand"]) ⟨rfl, by decide +kernel, by decide +kernel, by decide +kernel, rfl, by decide +kernel⟩) (by decide) rfl (ix_ls (zzx 3 (pv 3))) (zjk 0) (sub_name (by decide)) (fun _ _ _ _ => (zja (i := 0) (show List.Nodup (["word", "most", "colours"] : List Str) by decide +kernel) rfl (by first | exact Or.inl rfl | exact Or.inr rfl))) (fun _ _ _ _ => pf_yes) (fun _ _ _ _ => (zqf (h__law_tile.mono (by decide)) hr (by refine zzq ?_ ?_; (exact (zzx 0 (pv 0))); (exact (zzq (zzx 1 (pv 1)) (zzq (zzx 2 (pv 2)) zzk)))))))
          · refine zzg ?_ ?_
            · refine st_if ?_ ?_ ?_
              · exact (PWb.pb (pb_or (pb_cmp (ov_in hu) px_non (zzx 5 (pv 5))) (pb_or (pb_cmp (ov_ne hu) (zzx 5 (pv 5)) (zkz (cv_sorted hu) rfl T.b_sorted bt_sorted (zzq (zzx 5 (pv 5)) zzk))) (pb_or (pb_cmp ov_gt (zzx 4 (pv 4)) zza) (pb_or1 (pb_cmp ov_gt (zkz cv_len rfl T.b_len bt_len (zzq (zzx 5 (pv 5)) zzk)) zza))))))
              · refine zyh ?_
                exact st_ret px_non
              · exact ds_nil
            · refine ds_frz 5 ?_
              refine zzg ?_ ?_
              · refine st_if ?_ ?_ ?_
                · exact (pb_cmp ov_gt (px_maxD rfl T.b_max (zzq (px_comp (N' := ["tile", "hand"]) (CompSc.fit (sc := zzj zjy) (N := ["text", "most", "colours", "words", "jokers", "hand"]) ⟨rfl, by decide +kernel, by decide +kernel, by decide +kernel, rfl, by decide +kernel⟩) (by decide) rfl (ix_ls (zzx 5 (pv 5))) (zjk 0) (sub_name (by decide)) (fun _ _ _ _ => (zja (i := 0) (show List.Nodup (["tile", "hand"] : List Str) by decide +kernel) rfl (by first | exact Or.inl rfl | exact Or.inr rfl))) (fun _ _ _ _ => pf_yes) (fun _ _ _ _ => (px_count hu (zzx 1 (pv 1)) (zzx 0 (pv 0))))) zzk)) zza)
                · refine zyh ?_
                  exact st_ret px_non
                · exact ds_nil
              · refine ds_frz 5 ?_
                refine zyh ?_
                exact st_ret (px_tup (zzq (zzx 5 (pv 5)) (zzq (zzx 4 (pv 4)) zzk)))
noncomputable abbrev s__law_met : Stmt := top 37
theorem sc__law_met : FnScope ["house", "text", "e"] ["house", "text"] (zzj s__law_met) := ⟨rfl, rfl, rfl, by decide +kernel, rfl, by decide +kernel, by decide +kernel⟩
noncomputable def F__law_met (C : Addr) (E_BadHand : Addr) (E_BadNote : Addr) : DS → M Out := (fTry (fRet (eCb (gCallX 2 (M_read C E_BadHand E_BadNote)) (zzz (eVar 0) (zzz (eVar 1) aNil)))) E_BadNote true)
noncomputable def M__law_met (C : Addr) (E_BadHand : Addr) (E_BadNote : Addr) : List DV → M DV := mir ["house", "text", "e"] (F__law_met C E_BadHand E_BadNote)
theorem h__law_met {C E_BadHand E_BadHouse E_BadNote E_MeldError : Addr} (T : Tx K mg C) (R : Rx K mg E_BadHand E_BadHouse E_BadNote E_MeldError) (D : Df K mg "_law_met" s__law_met ["house", "text"])  (h_read : HasX P w K mg base 5 "read" 2 (M_read C E_BadHand E_BadNote)) : Has P w K mg base 6 "_law_met" 2 (M__law_met C E_BadHand E_BadNote) := D.has fun f fd Fu => fn0 (k := 5) Fu sc__law_met rfl fun cdv A outer s H E hr => by
  have hu := hu64 hr
  have nd := sc__law_met.nd
  refine zyh ?_
  refine st_try (i := 2) (C := E_BadNote) R.x_BadNote ?_ ?_ ?_
  · exact nd
  · intro pn W E' pass
    refine zyh ?_
    exact st_ret (by refine px_hasX (h_read.mono (by decide)) hr pass ?_; exact (zzq (zzx 0 (pv 0)) (zzq (zzx 1 (pv 1)) zzk)))
  · intro e pn W oe hc hp
    refine pe_exAnd (i := 2) ?_ ?_
    · exact pe_isO (List.mem_append_right _ hp) hc R.q_BadNote_MeldError T.b_isinstance R.m_MeldError (pv 2)
    · refine pe_one ?_
      exact pe_isT (List.mem_append_right _ hp) hc R.q_BadNote_ValueError T.b_isinstance T.b_ValueError bt_ValueError (pv 2)
noncomputable abbrev s_law : Stmt := top 38
theorem sc_law : FnScope ["script", "most", "colours", "house", "words", "text", "k", "due", "lap", "found"] ["script"] (zzj s_law) := ⟨rfl, rfl, rfl, by decide +kernel, rfl, by decide +kernel, by decide +kernel⟩
noncomputable def F_law (K : PySem.W.Frag) (C : Addr) (E_BadHand : Addr) (E_BadHouse : Addr) (E_BadNote : Addr) : DS → M Out := (fSq (fTg (sTup 2 (sCons (zjq 1) (sCons (zjq 2) sNil))) (eCb (zxg 1 (M__law_house_by K)) (zzz (eVar 0) aNil))) (fSq (fSet 3 (eMkH C E_BadHouse (zzz (eVar 1) (zzz (eVar 2) aNil)))) (fSq (fSet 4 (eComp 2 [] (iLs (eCb (zxg 5 (zje K)) (zzz (eVar 0) (zzz (eC (.int 2)) (zzz (eVar 1) (zzz (eVar 2) (zzz (eC (.int 12)) aNil))))))) (sTup 2 (sCons (zjq 0) (sCons (zjq 1) sNil))) bYes (e2 gAddS (eCb gStrI (zzz (eVar 0) aNil)) (e2 gIxC (eC (.str "abcd")) (eVar 1))))) (fSq (fSet 5 (eJoin (eC (.str " ")) (e2 gPlus3 (eVar 4) (e2 gTimes (eLst (zzz (eC (.str "*")) aNil)) (e2 gMod (eCb (zxg 2 (zzy K)) (zzz (eVar 0) (zzz (eC (.int 1)) aNil))) (eC (.int 3))))))) (fSq (fFor (iR1 (zzz (e2 gPlus3 (eC (.int 1)) (e2 gMod (eCb (zxg 2 (zzy K)) (zzz (eVar 0) (zzz (eC (.int 20)) aNil))) (eC (.int 2)))) aNil)) (zjq 6) (fSet 5 (eCb (zxg 2 (M__law_spoilt)) (zzz (eVar 5) (zzz (eCb (zxg 2 (zzy K)) (zzz (eVar 0) (zzz (e2 gPlus3 (eC (.int 21)) (eVar 6)) aNil))) aNil))))) (fSq (fSet 7 (eCb (zxg 3 (M__law_due)) (zzz (eVar 5) (zzz (eVar 1) (zzz (eVar 2) aNil))))) (fSq (fFor (iR1 (zzz (eC (.int 2)) aNil)) (zjq 8) (fSq (fSet 9 (eCb (zxg 2 (M__law_met C E_BadHand E_BadNote)) (zzz (eVar 3) (zzz (eVar 5) aNil)))) (fIf (fun δ => bd (e2 (gIs false) (eVar 7) (eC .none) δ) tru) (fIf (fun δ => (fun δ => bd (e2 (gIs true) (eVar 9) (eC (.bool true)) δ) tru) (frz 9 δ)) (fRet (eC (.bool false))) fNil) (fIf (fun δ => (bOr (bNot (fun δ => bd ((eIs "tuple" (eVar 9)) δ) tru)) (bOr (fun δ => bd (e2 (gEq true) (eVar 9) (eVar 7) δ) tru) (bNot (fun δ => bd ((eCb (zxg 1 (M__law_whole)) (zzz (e2 gIx (eVar 9) (eC (.int 1))) aNil)) δ) tru)))) (frz 9 δ)) (fRet (eC (.bool false))) (fAppT 9 0 (eTup (zzz (eC (.int 1)) (zzz (eC (.int 0)) aNil)))))))) (fRet (eC (.bool true))))))))))
noncomputable def M_law (K : PySem.W.Frag) (C : Addr) (E_BadHand : Addr) (E_BadHouse : Addr) (E_BadNote : Addr) : List DV → M DV := mir ["script", "most", "colours", "house", "words", "text", "k", "due", "lap", "found"] (F_law K C E_BadHand E_BadHouse E_BadNote)
theorem ok_law {C E_BadHand E_BadHouse E_BadNote E_MeldError : Addr} (T : Tx K mg C) (R : Rx K mg E_BadHand E_BadHouse E_BadNote E_MeldError) {f : Addr} {fd : FuncData} (Fu : Fun K "law" "law" s_law f fd) (h_House : HsK P w K mg base C E_BadHouse) (h__law_house_by : Has P w K mg base 2 "_law_house_by" 1 (M__law_house_by K)) (h__law_hand_by : Has P w K mg base 2 "_law_hand_by" 5 (zje K)) (zxy : Has P w K mg base 1 "_law_cell_at" 2 (zzy K)) (h__law_spoilt : Has P w K mg base 2 "_law_spoilt" 2 (M__law_spoilt)) (h__law_due : Has P w K mg base 2 "_law_due" 3 (M__law_due)) (h__law_met : Has P w K mg base 6 "_law_met" 2 (M__law_met C E_BadHand E_BadNote)) (h__law_whole : Has P w K mg base 1 "_law_whole" 1 (M__law_whole)) : FnOk P w K mg base CX0 7 f fd ["script"] (sp0 1 (M_law K C E_BadHand E_BadHouse E_BadNote)) := fn0 (k := 6) Fu sc_law rfl fun cdv A outer s H E hr => by
  have hu := hu64 hr
  have nd := sc_law.nd
  refine zzg ?_ ?_
  · refine st_asg ?_ (pg_tup rfl (pgs_cons (zja (i := 1) (by exact nd) rfl (by first | exact Or.inl rfl | exact Or.inr rfl)) (pgs_cons (zja (i := 2) (by exact nd) rfl (by first | exact Or.inl rfl | exact Or.inr rfl)) pgs_nil))) (tg_tup (tg_cons (zjk 1) (tg_cons (zjk 2) tg_nil)))
    exact (zqf (h__law_house_by.mono (by decide)) hr (zzq (zzx 0 (pv 0)) zzk))
  · refine zzg ?_ ?_
    · refine zjw (i := 3) ?_ ?_
      · exact nd
      · exact (by refine px_make h_House (by decide +kernel) (hr.mono (by decide)) passR0 ?_; exact (zzq (zzx 1 (pv 1)) (zzq (zzx 2 (pv 2)) zzk)))
    · refine zzg ?_ ?_
      · refine st_setC (i := 4) (N' := ["number", "colour"]) (CompSc.fit (sc := zzj s_law) (N := ["script", "most", "colours", "house", "words", "text", "k", "due", "lap", "found"]) ⟨rfl, by decide +kernel, by decide +kernel, by decide +kernel, rfl, by decide +kernel⟩) (by decide) rfl (by exact nd) (ix_ls (zqf (h__law_hand_by.mono (by decide)) hr (by refine zzq ?_ ?_; (exact (zzx 0 (pv 0))); (exact (by refine zzq ?_ ?_; (exact zza); (exact (by refine zzq ?_ ?_; (exact (zzx 1 (pv 1))); (exact (by refine zzq ?_ ?_; (exact (zzx 2 (pv 2))); (exact (by refine zzq ?_ ?_; (exact zza); (exact zzk)))))))))))) (tg_tup (tg_cons (zjk 0) (tg_cons (zjk 1) tg_nil))) sub_two (fun _ _ _ _ => (pg_tup rfl (pgs_cons (zja (i := 0) (show List.Nodup (["number", "colour"] : List Str) by decide +kernel) rfl (by first | exact Or.inl rfl | exact Or.inr rfl)) (pgs_cons (zja (i := 1) (show List.Nodup (["number", "colour"] : List Str) by decide +kernel) rfl (by first | exact Or.inl rfl | exact Or.inr rfl)) pgs_nil)))) (fun _ _ _ _ => pf_yes) (fun _ _ _ _ => (px_op ov_addS (px_callTy cv_strI rfl T.b_str bt_str (zzq (zzx 0 (pv 0)) zzk)) (px_ixC (px_str (by decide +kernel)) (zzx 1 (pv 1)))))
      · refine zzg ?_ ?_
        · refine zjw (i := 5) ?_ ?_
          · exact nd
          · exact (px_join (px_str (by decide +kernel)) (px_op ov_plus3 (zzx 4 (pv 4)) (px_op ov_times (px_lst (zzq (px_str (by decide +kernel)) zzk)) (px_op ov_mod (zqf (zxy.mono (by decide)) hr (zzq (zzx 0 (pv 0)) (zzq zza zzk))) zza))))
        · refine zzg ?_ ?_
          · refine st_for PassesOwn.never rfl ?_ (zja (i := 6) (by exact nd) rfl (by first | exact Or.inl rfl | exact Or.inr rfl)) (zjk 6) ?_
            · exact (ix_r1 T.b_range (zzq (px_op ov_plus3 zza (px_op ov_mod (zqf (zxy.mono (by decide)) hr (zzq (zzx 0 (pv 0)) (zzq zza zzk))) zza)) zzk))
            · refine zyh ?_
              refine zjw (i := 5) ?_ ?_
              · exact nd
              · exact (zqf (h__law_spoilt.mono (by decide)) hr (zzq (zzx 5 (pv 5)) (zzq (zqf (zxy.mono (by decide)) hr (zzq (zzx 0 (pv 0)) (zzq (px_op ov_plus3 zza (zzx 6 (pv 6))) zzk))) zzk)))
          · refine zzg ?_ ?_
            · refine zjw (i := 7) ?_ ?_
              · exact nd
              · exact (zqf (h__law_due.mono (by decide)) hr (by refine zzq ?_ ?_; (exact (zzx 5 (pv 5))); (exact (zzq (zzx 1 (pv 1)) (zzq (zzx 2 (pv 2)) zzk)))))
            · refine zzg ?_ ?_
              · refine st_for PassesOwn.never rfl ?_ (zja (i := 8) (by exact nd) rfl (by first | exact Or.inl rfl | exact Or.inr rfl)) (zjk 8) ?_
                · exact (ix_r1 T.b_range (zzq zza zzk))
                · refine zzg ?_ ?_
                  · refine zjw (i := 9) ?_ ?_
                    · exact nd
                    · exact (zqf (h__law_met.mono (by decide)) hr (zzq (zzx 3 (pv 3)) (zzq (zzx 5 (pv 5)) zzk)))
                  · refine zyh ?_
                    refine st_if ?_ ?_ ?_
                    · exact (pb_cmp ov_is (zzx 7 (pv 7)) px_non)
                    · refine zyh ?_
                      refine st_if ?_ ?_ ?_
                      · exact (pb_frz 9 (pb_cmp ov_isnot (zzx 9 (pv 9)) px_bl))
                      · refine zyh ?_
                        exact st_ret px_bl
                      · exact ds_nil
                    · refine zyh ?_
                      refine st_if ?_ ?_ ?_
                      · exact (pb_frz 9 (PWb.pb (pb_or (pb_not (pb_val (px_is (by decide) T.b_isinstance T.b_tuple bt_tuple (zzx 9 (pv 9))))) (pb_or (pb_cmp (ov_ne hu) (zzx 9 (pv 9)) (zzx 7 (pv 7))) (pb_or1 (pb_not (pb_val (zqf (h__law_whole.mono (by decide)) hr (zzq (px_ix (zzx 9 (pv 9)) zza) zzk)))))))))
                      · refine zyh ?_
                        exact st_ret px_bl
                      · refine zyh ?_
                        refine st_appT (i := 9) (k := 0) (pe_ix ix_seq (pv 9) pe_int (by intro _ _; rfl)) ?_
                        exact (px_tup (zzq zza (zzq zza zzk)))
              · refine zyh ?_
                exact st_ret px_bl
end
end K10
set_option Elab.async false
set_option linter.all false
set_option maxRecDepth 100000
set_option maxHeartbeats 1000000
set_option autoImplicit false
namespace K10
open PySem PySem.Spec L2 L3 LW
theorem loop_I {α : Type} {f : α → D} {i N : Nat} {B : DS → M Out} {all : List α} (I : List α → DS → Prop)
    (h : ∀ pre a δ, a ∈ all → pre.length < N → I pre δ → ∃ δ', B (δ.set i (some (.d (f a)))) = rt (.nx δ') ∧ I (pre ++ [a]) δ') :
    ∀ (as pre : List α) (δ : DS), (∀ a ∈ as, a ∈ all) → pre.length + as.length ≤ N → I pre δ → ∃ δ', loopD (zjq i) B (as.map f) δ = rt (.nx δ') ∧ I (pre ++ as) δ'
  | [], pre, δ, _, _, hI => ⟨δ, rfl, by rw [List.append_nil]; exact hI⟩
  | a :: as, pre, δ, ha, hn, hI => by
    simp only [List.length_cons] at hn
    obtain ⟨δ1, e1, h1⟩ := h pre a δ (ha a List.mem_cons_self) (by lia) hI
    obtain ⟨δ2, e2, h2⟩ := loop_I I h as (pre ++ [a]) δ1 (fun x hx => ha x (List.mem_cons_of_mem _ hx)) (by simp; lia) h1
    refine ⟨δ2, ?_, by rw [List.append_assoc] at h2; exact h2⟩
    rw [List.map_cons]
    unfold loopD
    have hs : zjq i (f a) δ = some (δ.set i (some (.d (f a)))) := rfl
    rw [hs, zzb, zye, e1, zye, lpo_nx]
    exact e2
section
variable {f : DS → M DV} {δ : DS}
theorem iLn_is {xs : List D} (h : f δ = rt (.new xs)) : iLs f δ = rt xs := by unfold iLs; rw [h]; rfl
theorem ext_is {i : Nat} {xs ys : List D} (hi : δ[i]? = some (some (.own xs))) (h : f δ = rt (.new ys)) (hl : xs.length + ys.length ≤ 1000000) : fExt i f δ = rt (.nx (δ.set i (some (.own (xs ++ ys))))) := by
  unfold fExt
  rw [hi]
  simp only
  rw [h, zye]
  exact if_pos hl
end
theorem gPlus3_int (i j : Int) : gPlus3 (.d (.int i)) (.d (.int j)) = rt (.d (.int (i + j))) := rfl
noncomputable def letter (k : Nat) : Str := ⟨#[97 + k]⟩
noncomputable def zjb (p : Nat × Nat) : Str := Str.empty ++ Str.ofString (toString ((p.1 : Nat) : Int)) ++ letter p.2
noncomputable def prN (p : Nat × Nat) : D := pr ((p.1 : Int), (p.2 : Int))
noncomputable def rowP (c n0 : Nat) : List (Nat × Nat) := (List.range c).map fun k => (1 + n0, k)
noncomputable def allP (m c : Nat) : List (Nat × Nat) := (List.range m).flatMap (rowP c)
theorem mem_allP {m c : Nat} {p : Nat × Nat} (h : p ∈ allP m c) : 1 ≤ p.1 ∧ p.1 ≤ m ∧ p.2 < c := by
  unfold allP rowP at h
  obtain ⟨n0, hn, hp⟩ := List.mem_flatMap.mp h
  obtain ⟨k, hk, rfl⟩ := List.mem_map.mp hp
  have := List.mem_range.mp hn
  have := List.mem_range.mp hk
  exact ⟨by show 1 ≤ 1 + n0; lia, by show 1 + n0 ≤ m; lia, by assumption⟩
theorem num_ok : ∀ n ∈ List.range 14, ((n : Nat) : Int).natAbs.log2 < 1920 ∧ (Str.empty ++ Str.ofString (toString ((n : Nat) : Int))).length ≤ 1000000 := by decide +kernel
theorem word_ok : ∀ n ∈ List.range 14, ∀ k ∈ List.range 4, (letter k).length ≤ 1000000 ∧ (zjb (n, k)).length ≤ 1000000 ∧ PyData.strOk (zjb (n, k)) = true := by decide +kernel
theorem let_ok : ∀ k ∈ List.range 4, atI ("abcd" : Str).cps.toList ((k : Nat) : Int) = some (97 + k) ∧ PyData.strOk (letter k) = true := by decide +kernel
theorem m_word {p : Nat × Nat} (h1 : 1 ≤ p.1) (h13 : p.1 ≤ 13) (h4 : p.2 < 4) : zjf [.d (prN p)] = rt (.d (.str (zjb p))) := by
  obtain ⟨n, k⟩ := p
  have hn := num_ok n (List.mem_range.mpr (by show n < 14; have : n ≤ 13 := h13; lia))
  have hw := word_ok n (List.mem_range.mpr (by have : n ≤ 13 := h13; lia)) k (List.mem_range.mpr h4)
  have hk := let_ok k (List.mem_range.mpr h4)
  unfold zjf F_tile_word
  refine mir_is (x := .d (.str (zjb (n, k)))) ?_
  refine sqN (δ' := [some (.d (prN (n, k))), some (.d (.int (n : Int))), none]) (setN (x := .d (.int (n : Int))) ((zkq (x := .d (prN (n, k))) (y := .d (.int 0)) rfl rfl).trans (gIx_tup rfl)) rfl rfl) ?_
  refine sqN (δ' := [some (.d (prN (n, k))), some (.d (.int (n : Int))), some (.d (.str (letter k)))]) (setN (x := .d (.str (letter k))) ((zkq (x := .d (.str "abcd")) (y := .d (.int (k : Int))) rfl ((zkq (x := .d (prN (n, k))) (y := .d (.int 1)) rfl rfl).trans (gIx_tup rfl))).trans ?_) rfl rfl) ?_
  · show bd (op (atI ("abcd" : Str).cps.toList ((k : Nat) : Int))) _ = _
    rw [hk.1, zzb, zye, if_pos ⟨by decide +kernel, hk.2⟩]
    rfl
  · refine ret_is ?_
    unfold eF2
    show bd (op (asIF (.d (.int (n : Int))))) (fun i => bd (rt (DV.d (.str (letter k)))) fun y => gF2 i y) = _
    have ha : asIF (.d (.int (n : Int))) = some (n : Int) := if_pos hn
    rw [ha, zzb, zye, zye]
    exact if_pos hw
theorem row_turn (C : Addr) {m c : Nat} (hc : c ≤ 4) (n0 : Nat) (base : List D) (hb : base.length ≤ 1000) :
    (fExt 1 (eComp 1 [2] (iR1 (zzz (eFld C "colours" (eVar 0)) aNil)) (zjq 0) bYes (eTup (zzz (eVar 1) (zzz (eVar 0) aNil))))) [some (hs C m c), some (.own base), some (.d (.int (1 + (n0 : Int))))] = rt (.nx [some (hs C m c), some (.own (base ++ (rowP c n0).map prN)), some (.d (.int (1 + (n0 : Int))))]) := by
  have hcomp : eComp 1 [2] (iR1 (zzz (eFld C "colours" (eVar 0)) aNil)) (zjq 0) bYes (eTup (zzz (eVar 1) (zzz (eVar 0) aNil))) [some (hs C m c), some (.own base), some (.d (.int (1 + (n0 : Int))))] = rt (.new ((rowP c n0).map prN)) := by
    refine eComp_is (iR1_is (a1_is (gFld_colours C m c)) (by lia) (by lia)) (by rw [runI_len]; lia) ?_
    rw [show (c : Int).toNat = c by lia, run0]
    unfold rowP
    rw [List.map_map]
    refine comp_by (g := fun (k : Nat) => prN (1 + n0, k)) fun k _ => ?_
    refine (t2_is (a := .int (1 + (n0 : Int))) (b := .int (k : Int)) rfl rfl).trans ?_
    show rt (DV.d (pr (1 + (n0 : Int), (k : Int)))) = rt (DV.d (pr (((1 + n0 : Nat) : Int), (k : Int))))
    rw [show ((1 + n0 : Nat) : Int) = 1 + (n0 : Int) by lia]
  rw [ext_is (xs := base) rfl hcomp (by unfold rowP; simp; lia)]
  rfl
theorem rows_len {c : Nat} (hc : c ≤ 4) : ∀ pre : List Nat, (pre.flatMap (rowP c)).length ≤ 4 * pre.length
  | [] => by simp
  | x :: r => by
    have h1 := rows_len hc r
    have h2 : (rowP c x).length = c := by unfold rowP; simp
    rw [List.flatMap_cons, List.length_append, List.length_cons]
    lia
theorem m_all_tiles (C : Addr) {m c : Nat} (hm : m ≤ 13) (hc : c ≤ 4) : M_all_tiles C [hs C m c] = rt (.new ((allP m c).map prN)) := by
  unfold M_all_tiles F_all_tiles
  refine mir_is (x := .own ((allP m c).map prN)) ?_
  refine sqN (δ' := [some (hs C m c), some (.own []), none]) rfl ?_
  obtain ⟨δ', e, y2, hδ⟩ := loop_I (f := fun (k : Nat) => PyData.int (1 + (k : Int))) (i := 2) (N := m) (B := fExt 1 (eComp 1 [2] (iR1 (zzz (eFld C "colours" (eVar 0)) aNil)) (zjq 0) bYes (eTup (zzz (eVar 1) (zzz (eVar 0) aNil))))) (all := List.range m)
    (fun pre δ => ∃ y2, δ = [some (hs C m c), some (.own ((pre.flatMap (rowP c)).map prN)), y2])
    (fun pre a δ ha hp ⟨y2, hδ⟩ => by
      subst hδ
      have hl := rows_len hc pre
      refine ⟨_, row_turn C hc a ((pre.flatMap (rowP c)).map prN) (by rw [List.length_map]; lia), some (.d (.int (1 + (a : Int)))), ?_⟩
      rw [List.flatMap_append, List.map_append, show [a].flatMap (rowP c) = rowP c a by simp])
    (List.range m) [] [some (hs C m c), some (.own []), none] (fun _ h => h) (by simp) ⟨none, rfl⟩
  refine sqN (δ' := [some (hs C m c), some (.own ((allP m c).map prN)), y2]) (for_is (xs := (List.range m).map fun (k : Nat) => PyData.int (1 + (k : Int))) ?_ ?_) (ret_is rfl)
  · rw [iR2_is (a2_is (x := .d (.int 1)) rfl ((zkq (x := .d (.int (m : Int))) (y := .d (.int 1)) (gFld_most C m c) rfl).trans (gPlus3_int _ _))) (by lia) (by lia) (by lia) (by lia), show ((m : Int) + 1 - 1).toNat = m by lia]
    rfl
  · rw [e, hδ]
    rfl
noncomputable def kvsP (m c : Nat) : List (Str × D) := (allP m c).map fun p => (zjb p, prN p)
theorem keys_ok : ∀ m ∈ List.range 14, ∀ c ∈ List.range 5, ((allP m c).map zjb).Nodup := by decide +kernel
theorem comp_find (kvs : List (Str × D)) (δ : DS) (hδ : (subD 1 [2] δ) = [none, some (.tbl kvs)]) : ∀ ws : List Str, compD (zjq 0) (fun δ => bd (e2 (gInT false) (eVar 0) (eVar 1) δ) tru) (e2 gGet (eVar 1) (eVar 0)) (subD 1 [2] δ) (ws.map PyData.str) = some (ws.filterMap (findT kvs)) := by
  rw [hδ]
  intro ws
  induction ws with
  | nil => rfl
  | cons z ws ih =>
    rw [List.map_cons]
    unfold compD
    simp only [zjq]
    have hg : (fun δ => bd (e2 (gInT false) (eVar 0) (eVar 1) δ) tru) [some (.d (.str z)), some (.tbl kvs)] = rt (findT kvs z).isSome := tst_is ((zkq (x := .d (.str z)) (y := .tbl kvs) rfl rfl).trans rfl)
    show (match (fun δ => bd (e2 (gInT false) (eVar 0) (eVar 1) δ) tru) [some (.d (.str z)), some (.tbl kvs)] with | some (.ok false) => _ | some (.ok true) => _ | _ => _) = _
    rw [hg]
    cases hf : findT kvs z with
    | none =>
      rw [List.filterMap_cons_none hf]
      exact ih
    | some d =>
      rw [List.filterMap_cons_some hf]
      have he : e2 gGet (eVar 1) (eVar 0) [some (.d (.str z)), some (.tbl kvs)] = rt (.d d) := (zkq (x := .tbl kvs) (y := .d (.str z)) rfl rfl).trans (by show bd (op (findT kvs z)) _ = _; rw [hf]; rfl)
      show (match e2 gGet (eVar 1) (eVar 0) [some (.d (.str z)), some (.tbl kvs)] with | some (.ok y) => (match asD y, _ with | some z, some zs => some (z :: zs) | _, _ => none) | _ => none) = _
      rw [he]
      show (match asD (DV.d d), compD (zjq 0) (fun δ => bd (e2 (gInT false) (eVar 0) (eVar 1) δ) tru) (e2 gGet (eVar 1) (eVar 0)) [none, some (.tbl kvs)] (ws.map PyData.str) with | some z, some zs => some (z :: zs) | _, _ => none) = _
      rw [ih]
      rfl
section
variable (C E_BadHand : Addr) {m c : Nat}
theorem dict_is (hm : m ≤ 13) (hc : c ≤ 4) (z : Str) : (eCb gDict (zzz (eComp 1 [] (iLs (eCb (zxg 1 (M_all_tiles C)) (zzz (eVar 0) aNil))) (zjq 0) bYes (eTup (zzz (eCb (zxg 1 (zjf)) (zzz (eVar 0) aNil)) (zzz (eVar 0) aNil)))) aNil)) [some (hs C m c), some (.d (.str z)), none, none, none, none] = rt (.tbl (kvsP m c)) := by
  have hl : (allP m c).length ≤ 1000000 := by
    have := rows_len hc (List.range m)
    rw [List.length_range] at this
    unfold allP
    lia
  have hcomp : eComp 1 [] (iLs (eCb (zxg 1 (M_all_tiles C)) (zzz (eVar 0) aNil))) (zjq 0) bYes (eTup (zzz (eCb (zxg 1 (zjf)) (zzz (eVar 0) aNil)) (zzz (eVar 0) aNil))) [some (hs C m c), some (.d (.str z)), none, none, none, none] = rt (.new ((kvsP m c).map pairD)) := by
    have hi : iLs (eCb (zxg 1 (M_all_tiles C)) (zzz (eVar 0) aNil)) [some (hs C m c), some (.d (.str z)), none, none, none, none] = rt ((allP m c).map prN) := iLn_is (call_is (n := 1) (a1_is (x := hs C m c) rfl) rfl rfl (m_all_tiles C hm hc))
    refine eComp_is hi (by rw [List.length_map]; exact hl) ?_
    unfold kvsP
    rw [List.map_map]
    refine comp_by (g := fun p => pairD (zjb p, prN p)) fun p hp => ?_
    obtain ⟨h1, h2, h3⟩ := mem_allP hp
    exact t2_is (a := .str (zjb p)) (b := prN p) (call_is (n := 1) (a1_is (x := .d (prN p)) rfl) rfl rfl (m_word h1 (by lia) (by lia))) rfl
  rw [cb_is (a1_is hcomp)]
  unfold gDict
  simp only [zxd, zzb, zye]
  rw [pairsD_map, zzb, zye, if_pos]
  have hk := (keys_ok m (List.mem_range.mpr (by lia)) c (List.mem_range.mpr (by lia)))
  unfold kvsP
  rw [List.map_map]
  exact hk
end
section
variable (C E_BadHand : Addr) {m c j : Int} {ps : List (Int × Int)}
theorem m_checkY (hl : ps.length ≤ 1000) (hn : handOk m c ps j = true) : M_check_hand C E_BadHand [hs C m c, .d (.list (ps.map pr)), .d (.int j)] = rt (.d .none) := by
  have h := m_hand C m c j ps hl
  rw [hn] at h
  unfold M_check_hand F_check_hand mir
  rw [ifF (not_is' (tst_is (call_is (a3_is (x := hs C m c) (y := .d (.list (ps.map pr))) (z := .d (.int j)) rfl rfl rfl) rfl rfl h)) rfl) rfl]
  rfl
end
end K10
set_option Elab.async false
set_option linter.all false
set_option maxRecDepth 100000
set_option maxHeartbeats 1000000
set_option autoImplicit false
namespace K10
open PySem PySem.Spec L2 L3 LW
theorem sp_is : (" " : Str) = ⟨#[32]⟩ := rfl
theorem eqv_str (a b : Str) : PyData.eqv (.str a) (.str b) = decide (a = b) := by
  show (a == b) = _
  by_cases h : a = b
  · subst h; simp
  · rw [beq_eq_false_iff_ne.mpr h, decide_eq_false h]
theorem gEq_str (neg : Bool) (a b : Str) : gEq neg (.d (.str a)) (.d (.str b)) = rt (.d (.bool (if neg = true then !decide (a = b) else decide (a = b)))) := by
  unfold gEq
  simp only [asQ_d]
  rw [if_pos (by unfold PyData.depth; decide), eqv_str]
theorem word_fact : ∀ n ∈ List.range 14, ∀ k ∈ List.range 4, 32 ∉ (zjb (n, k)).cps.toList ∧ (zjb (n, k)).length ≤ 3 ∧ PyData.strOk (zjb (n, k)) = true ∧ zjb (n, k) ≠ ("*" : Str) ∧ zjb (n, k) ≠ ("-" : Str) := by decide +kernel
theorem star_fact : 32 ∉ (("*" : Str)).cps.toList ∧ (("*" : Str)).length ≤ 3 ∧ PyData.strOk ("*" : Str) = true := by decide +kernel
noncomputable def toI (p : Nat × Nat) : Int × Int := ((p.1 : Int), (p.2 : Int))
theorem prs_toI (ws : List (Nat × Nat)) : (ws.map toI).map pr = ws.map prN := by rw [List.map_map]; rfl
noncomputable def words (ws : List (Nat × Nat)) (j : Nat) : List Str := ws.map zjb ++ List.replicate j ("*" : Str)
noncomputable def tx (ws : List (Nat × Nat)) (j : Nat) : Str := if (words ws j).isEmpty = true then ("-" : Str) else Txt.join " " (words ws j)
section
variable {m c j : Nat} {ws : List (Nat × Nat)}
theorem tile_fact (hm : m ≤ 13) (hc : c ≤ 4) (hw : ∀ p ∈ ws, 1 ≤ p.1 ∧ p.1 ≤ m ∧ p.2 < c) {p : Nat × Nat} (hp : p ∈ ws) : 32 ∉ (zjb p).cps.toList ∧ (zjb p).length ≤ 3 ∧ PyData.strOk (zjb p) = true ∧ zjb p ≠ ("*" : Str) ∧ zjb p ≠ ("-" : Str) := by
  obtain ⟨h1, h2, h3⟩ := hw p hp
  exact word_fact p.1 (List.mem_range.mpr (by lia)) p.2 (List.mem_range.mpr (by lia))
theorem words_fact (hm : m ≤ 13) (hc : c ≤ 4) (hw : ∀ p ∈ ws, 1 ≤ p.1 ∧ p.1 ≤ m ∧ p.2 < c) : ∀ w ∈ words ws j, 32 ∉ w.cps.toList ∧ w.length ≤ 3 ∧ PyData.strOk w = true := fun w h => by
  rcases List.mem_append.mp h with h | h
  · obtain ⟨p, hp, rfl⟩ := List.mem_map.mp h
    have := tile_fact hm hc hw hp
    exact ⟨this.1, this.2.1, this.2.2.1⟩
  · rw [List.eq_of_mem_replicate h]; exact star_fact
theorem words_len : (words ws j).length = ws.length + j := by unfold words; simp
theorem gRep_star (hj : j ≤ 2) : gTimes (.new [.str "*"]) (.d (.int (j : Int))) = rt (.new (List.replicate j (.str "*"))) := by
  have : j = 0 ∨ j = 1 ∨ j = 2 := by lia
  rcases this with rfl | rfl | rfl <;> rfl
theorem m_shown (C E_BadHand : Addr) (hm : m ≤ 13) (hc : c ≤ 4) (hw : ∀ p ∈ ws, 1 ≤ p.1 ∧ p.1 ≤ m ∧ p.2 < c) (hl : ws.length ≤ 12) (hj : j ≤ 2) (hh : handOk m c (ws.map toI) j = true) :
    M_shown C E_BadHand [hs C m c, .d (.list (ws.map prN)), .d (.int (j : Int))] = rt (.d (.str (tx ws j))) := by
  have hchk := m_checkY C E_BadHand (ps := ws.map toI) (by rw [List.length_map]; lia) hh
  rw [prs_toI] at hchk
  have wf := words_fact (j := j) hm hc hw
  have wl : (words ws j).length = ws.length + j := words_len
  unfold M_shown F_shown
  refine mir_is (x := .d (.str (tx ws j))) ?_
  refine sqN (δ' := [some (hs C m c), some (.d (.list (ws.map prN))), some (.d (.int (j : Int))), none]) (drop_is (callX_is (a3_is (x := hs C m c) (y := .d (.list (ws.map prN))) (z := .d (.int (j : Int))) rfl rfl rfl) rfl rfl hchk)) ?_
  refine sqN (δ' := [some (hs C m c), some (.d (.list (ws.map prN))), some (.d (.int (j : Int))), some (.own ((words ws j).map PyData.str))]) (setN (x := .new ((words ws j).map PyData.str)) ?_ rfl rfl) ?_
  · refine (zkq (x := .new (ws.map fun p => PyData.str (zjb p))) (y := .new (List.replicate j (.str "*"))) (eComp_is (xs := ws.map prN) (iLs_is rfl) (by rw [List.length_map]; lia) (comp_by (g := fun p => PyData.str (zjb p)) fun p hp => ?_)) ((zkq (x := .new [.str "*"]) (y := .d (.int (j : Int))) rfl rfl).trans (gRep_star hj))).trans ?_
    · obtain ⟨h1, h2, h3⟩ := hw p hp
      exact call_is (n := 1) (a1_is (x := .d (prN p)) rfl) rfl rfl (m_word h1 (by lia) (by lia))
    · rw [cat3 (xs := ws.map fun p => PyData.str (zjb p)) (ys := List.replicate j (.str "*")) rfl rfl rfl (by simp; lia)]
      unfold words
      rw [List.map_append, List.map_map, List.map_replicate]
      rfl
  · refine ret_is ?_
    unfold eIf
    show bd (rt (!((words ws j).map PyData.str).isEmpty)) _ = _
    rw [zye]
    unfold tx
    cases he : (words ws j).isEmpty with
    | true =>
      have : ((words ws j).map PyData.str).isEmpty = true := by rw [List.isEmpty_map]; exact he
      rw [this]
      rfl
    | false =>
      have : ((words ws j).map PyData.str).isEmpty = false := by rw [List.isEmpty_map]; exact he
      rw [this]
      show gJoin " " (.own ((words ws j).map PyData.str)) = _
      unfold gJoin
      simp only [asL, zzb, zye, strsL_map]
      rw [sp_is, if_pos ⟨joinOk (B := 3) (fun w hw' => (wf w hw').2.1) (by lia), join_ok (by decide) fun w hw' => (wf w hw').2.2⟩]
      rfl
end
end K10
set_option Elab.async false
set_option linter.all false
set_option maxRecDepth 100000
set_option maxHeartbeats 1000000
set_option autoImplicit false
namespace K10
open PySem PySem.Spec L2 L3 LW
theorem find_in : ∀ {L : List (Nat × Nat)}, (L.map zjb).Nodup → ∀ {p}, p ∈ L → findT (L.map fun p => (zjb p, prN p)) (zjb p) = some (prN p)
  | [], _, p, h => by cases h
  | q :: L, hn, p, h => by
    unfold findT
    rw [List.map_cons] at hn ⊢
    by_cases e : zjb q = zjb p
    · rw [List.find?_cons_of_pos (by simpa using e)]
      rcases List.mem_cons.mp h with e' | e'
      · rw [e']; rfl
      · exact absurd (e ▸ List.mem_map_of_mem e') (List.nodup_cons.mp hn).1
    · rw [List.find?_cons_of_neg (by simpa using e)]
      rcases List.mem_cons.mp h with e' | e'
      · exact absurd (by rw [e']) e
      · exact find_in (List.nodup_cons.mp hn).2 e'
theorem parts_len (z p : Str) (hz : z.length ≤ 10000) : (Builtin.Str.partsBetween z (Builtin.Str.occurrences z p 0 z.length (z.length + 1)) p.length).length ≤ 1000000 := by
  have := StrLaws.occ_length_le z p 0 z.length (z.length + 1)
  unfold Builtin.Str.partsBetween
  simp
  lia
theorem splitOk_of {z : Str} (hz : z.length ≤ 10000) {ws : List Str} (hs : Txt.split z " " = ws) (hl : ws.length ≤ 1000000) (hw : ∀ w ∈ ws, PyData.strOk w = true) : splitOk z " " = true := by
  unfold splitOk
  rw [hs, decide_eq_true (show z.length ≤ 1000000 by lia), decide_eq_true (show (" " : Str).length ≠ 0 by decide), decide_eq_true (parts_len z " " hz), decide_eq_true hl]
  simpa using hw
section
variable {m c j : Nat} {ws : List (Nat × Nat)}
theorem all_fact (hm : m ≤ 13) (hc : c ≤ 4) : ∀ p ∈ allP m c, zjb p ≠ ("*" : Str) ∧ zjb p ≠ ("-" : Str) := fun p hp => by
  obtain ⟨h1, h2, h3⟩ := mem_allP hp
  exact (word_fact p.1 (List.mem_range.mpr (by lia)) p.2 (List.mem_range.mpr (by lia))).2.2.2
end
end K10
set_option Elab.async false
set_option linter.all false
set_option maxRecDepth 100000
set_option maxHeartbeats 1000000
set_option autoImplicit false
namespace K10
open PySem PySem.Spec L2 L3 LW
noncomputable def wt (L : List (List Nat)) : Nat := (L.map fun x => x.length + 1).sum
theorem wt_cons (x : List Nat) (L : List (List Nat)) : wt (x :: L) = x.length + 1 + wt L := by unfold wt; simp
theorem wt_len (L : List (List Nat)) : L.length ≤ wt L := by
  induction L with
  | nil => simp
  | cons x L ih => rw [wt_cons, List.length_cons]; lia
theorem fl_wt (c : Nat) (L : List (List Nat)) : (fl c L).length = wt L := by
  induction L with
  | nil => rfl
  | cons x L ih => rw [fl_cons, wt_cons, List.length_cons, List.length_append, ih]; lia
theorem jn_wt (c : Nat) {L : List (List Nat)} (h : L ≠ []) : (jn c L).length + 1 = wt L := by
  cases L with
  | nil => exact absurd rfl h
  | cons x L => show (x ++ fl c L).length + 1 = _; rw [List.length_append, fl_wt, wt_cons]; lia
theorem mem_fl {c n : Nat} {L : List (List Nat)} {x : List Nat} (hx : x ∈ L) (hn : n ∈ x) : n ∈ fl c L := List.mem_flatMap.mpr ⟨x, hx, List.mem_cons_of_mem _ hn⟩
theorem mem_jn {c n : Nat} {L : List (List Nat)} {x : List Nat} (hx : x ∈ L) (hn : n ∈ x) : n ∈ jn c L := by
  cases L with
  | nil => cases hx
  | cons y L =>
    rcases List.mem_cons.mp hx with e | e
    · exact List.mem_append_left _ (e ▸ hn)
    · exact List.mem_append_right _ (mem_fl e hn)
noncomputable def chs (W : List Str) : List (List Nat) := W.map (·.cps.toList)
theorem sp_wt (z : Str) : wt (chs (Txt.split z " ")) = z.length + 1 := by
  rw [sp_is, ← jn_wt 32 (L := chs (Txt.split z ⟨#[32]⟩)) (by unfold chs; simpa using split_ne _ _)]
  unfold chs
  rw [split_jn, str_len]
theorem sp_len (z : Str) : (Txt.split z " ").length ≤ z.length + 1 := by
  have h := wt_len (chs (Txt.split z " "))
  rw [sp_wt] at h
  unfold chs at h
  rw [List.length_map] at h
  exact h
theorem sp_ok {z : Str} (ho : PyData.strOk z = true) : ∀ w ∈ Txt.split z " ", PyData.strOk w = true := fun w hw => by
  refine strOk_iff.mpr fun n hn => strOk_iff.mp ho n ?_
  rw [← split_jn 32 z, ← sp_is]
  exact mem_jn (List.mem_map_of_mem (f := fun w : Str => w.cps.toList) hw) hn
theorem sp_back (z : Str) : Txt.join " " (Txt.split z " ") = z := str_ext (by rw [sp_is, join_l, split_jn])
noncomputable def fnd (m c : Nat) (w : Str) : Option (Nat × Nat) := (allP m c).find? fun p => decide (zjb p = w)
theorem fnd_some {m c : Nat} {w : Str} {p : Nat × Nat} (h : fnd m c w = some p) : p ∈ allP m c ∧ zjb p = w := ⟨List.mem_of_find?_eq_some h, by simpa using List.find?_some h⟩
theorem findT_fnd (m c : Nat) (w : Str) : findT (kvsP m c) w = (fnd m c w).map prN := by
  unfold findT kvsP fnd
  rw [List.find?_map, Option.map_map]
  rfl
theorem prN_inj {p q : Nat × Nat} (h : prN p = prN q) : p = q := by
  have := pr_inj h
  have h1 : (p.1 : Int) = q.1 := congrArg Prod.fst this
  have h2 : (p.2 : Int) = q.2 := congrArg Prod.snd this
  exact Prod.ext (by lia) (by lia)
section
variable {m c j : Nat}
theorem fnd_word (hm : m ≤ 13) (hc : c ≤ 4) {p : Nat × Nat} (hp : p ∈ allP m c) : fnd m c (zjb p) = some p := by
  have nd := keys_ok m (List.mem_range.mpr (by lia)) c (List.mem_range.mpr (by lia))
  have h : findT (kvsP m c) (zjb p) = some (prN p) := find_in nd hp
  rw [findT_fnd] at h
  cases hf : fnd m c (zjb p) with
  | none => rw [hf] at h; cases h
  | some q => rw [hf] at h; exact congrArg some (prN_inj (Option.some.inj h))
theorem fnd_star (hm : m ≤ 13) (hc : c ≤ 4) : fnd m c ("*" : Str) = none := List.find?_eq_none.mpr fun p hp => by simpa using (all_fact hm hc p hp).1
theorem fnd_dash (hm : m ≤ 13) (hc : c ≤ 4) : fnd m c ("-" : Str) = none := List.find?_eq_none.mpr fun p hp => by simpa using (all_fact hm hc p hp).2
theorem find_all (W : List Str) : W.filterMap (findT (kvsP m c)) = (W.filterMap (fnd m c)).map prN := by
  rw [List.map_filterMap]
  congr 1
  funext w
  exact findT_fnd m c w
theorem fnd_tiles (W : List Str) : ∀ p ∈ W.filterMap (fnd m c), 1 ≤ p.1 ∧ p.1 ≤ m ∧ p.2 < c := fun p hp => by
  obtain ⟨w, _, hw⟩ := List.mem_filterMap.mp hp
  exact mem_allP (fnd_some hw).1
noncomputable def nst (W : List Str) : Nat := W.countP fun w => decide (w = ("*" : Str))
theorem cnt_star (W : List Str) : gCnt (.d (.list (W.map PyData.str))) (.d (.str "*")) = rt (.d (.int (nst W : Int))) := by
  unfold gCnt nst
  simp only [asL, asQ_d]
  rw [if_pos (by unfold PyData.depth; decide), List.countP_map]
  have : ((fun z => PyData.eqv z (.str "*")) ∘ PyData.str) = fun w => decide (w = ("*" : Str)) := by
    funext w
    exact eqv_str w "*"
  rw [this]
theorem hand_len {ps : List (Int × Int)} {j : Nat} (h : handOk m c ps j = true) : ps.length ≤ 12 ∧ j ≤ 2 := by
  unfold handOk jok at h
  simp at h
  lia
noncomputable def rdR (m c : Nat) (z : Str) : Option (List (Nat × Nat) × Nat) :=
  if handOk m c (((Txt.split z " ").filterMap (fnd m c)).map toI) (nst (Txt.split z " ")) = true ∧ tx ((Txt.split z " ").filterMap (fnd m c)) (nst (Txt.split z " ")) = z then some ((Txt.split z " ").filterMap (fnd m c), nst (Txt.split z " ")) else none
noncomputable def rdM (E_BadNote : Addr) : Option (List (Nat × Nat) × Nat) → M DV
  | some (ws, j) => rt (.nwt [] (ws.map prN) [.int (j : Int)])
  | none => some (.error (.ref E_BadNote))
theorem m_readG (C E_BadHand E_BadNote : Addr) (hm : m ≤ 13) (hc : c ≤ 4) {z : Str} (hz : z.length ≤ 900) (ho : PyData.strOk z = true) : M_read C E_BadHand E_BadNote [hs C m c, .d (.str z)] = rdM E_BadNote (rdR m c z) := by
  have hlw := sp_len z
  have hok : splitOk z " " = true := splitOk_of (by lia) rfl (by lia) (sp_ok ho)
  have hlp : ((Txt.split z " ").filterMap (fnd m c)).length ≤ (Txt.split z " ").length := List.length_filterMap_le _ _
  have hhand := m_hand C m c (nst (Txt.split z " ")) (((Txt.split z " ").filterMap (fnd m c)).map toI) (by rw [List.length_map]; lia)
  rw [prs_toI] at hhand
  have hfa := find_all (m := m) (c := c) (Txt.split z " ")
  have hw := fnd_tiles (m := m) (c := c) (Txt.split z " ")
  have hcn := cnt_star (Txt.split z " ")
  have hsh := fun h1 h2 => m_shown C E_BadHand hm hc hw h1 h2 (j := nst (Txt.split z " "))
  unfold rdR
  generalize hW : Txt.split z " " = W at *
  generalize hp : W.filterMap (fnd m c) = ws at *
  generalize hj : nst W = j at *
  unfold M_read F_read
  have go : ∀ r : M Out, ((fSq (fIf (fun δ => (bOr (bNot (fun δ => bd ((eCb (zxg 3 (M_is_hand C)) (zzz (eVar 0) (zzz (eVar 4) (zzz (eVar 5) aNil)))) δ) tru)) (fun δ => bd (e2 (gEq true) (eCb (gCallX 3 (M_shown C E_BadHand)) (zzz (eVar 0) (zzz (eVar 4) (zzz (eVar 5) aNil)))) (eVar 1) δ) tru)) (frz 4 δ)) (fun _ => some (.error (.ref E_BadNote))) fNil) (fRet (eTupO (zzz (eVar 4) (zzz (eVar 5) aNil))))) [some (hs C m c), some (.d (.str z)), some (.tbl (kvsP m c)), some (.d (.list (W.map PyData.str))), some (.own (ws.map prN)), some (.d (.int (j : Int)))] = r) → F_read C E_BadHand E_BadNote (dst ["house", "text", "tiles", "words", "hand", "jokers"] [hs C m c, .d (.str z)]) = r := fun r hr => by
    unfold F_read
    refine sqN (δ' := [some (hs C m c), some (.d (.str z)), some (.tbl (kvsP m c)), none, none, none]) (setN (x := .tbl (kvsP m c)) (dict_is C hm hc z) rfl rfl) ?_
    refine sqN (δ' := [some (hs C m c), some (.d (.str z)), some (.tbl (kvsP m c)), some (.own (W.map PyData.str)), none, none]) (setN (x := .new (W.map PyData.str)) ?_ rfl rfl) ?_
    · unfold eSplit
      show gSplit z (.d (.str " ")) = _
      unfold gSplit
      simp only
      rw [if_pos hok, hW]
    change fSq _ _ [some (hs C m c), some (.d (.str z)), some (.tbl (kvsP m c)), some (.d (.list (W.map PyData.str))), none, none] = _
    refine sqN (δ' := [some (hs C m c), some (.d (.str z)), some (.tbl (kvsP m c)), some (.d (.list (W.map PyData.str))), some (.own (ws.map prN)), none]) (setN (x := .new (ws.map prN)) (eComp_is (xs := W.map PyData.str) (iLs_is rfl) (by rw [List.length_map]; lia) ?_) rfl rfl) ?_
    · rw [← hfa]
      exact comp_find (kvsP m c) _ rfl W
    exact sqN (δ' := [some (hs C m c), some (.d (.str z)), some (.tbl (kvsP m c)), some (.d (.list (W.map PyData.str))), some (.own (ws.map prN)), some (.d (.int (j : Int)))]) (setN (x := .d (.int (j : Int))) ((cnt_is (x := .d (.list (W.map PyData.str))) (y := .d (.str "*")) rfl rfl rfl).trans hcn) rfl rfl) hr
  cases hh : handOk m c (ws.map toI) j with
  | false =>
    rw [hh] at hhand
    rw [if_neg (by simp)]
    refine mir_er (go _ (sq_er (ifY ?_ rfl)))
    exact or_yes (not_is' (tst_is (call_is (a3_is (x := hs C m c) (y := .d (.list (ws.map prN))) (z := .d (.int (j : Int))) rfl rfl rfl) rfl rfl hhand)) rfl)
  | true =>
    rw [hh] at hhand
    obtain ⟨h1, h2⟩ := hand_len hh
    rw [List.length_map] at h1
    have hs1 := hsh h1 h2 hh
    have test : (bOr (bNot (fun δ => bd ((eCb (zxg 3 (M_is_hand C)) (zzz (eVar 0) (zzz (eVar 4) (zzz (eVar 5) aNil)))) δ) tru)) (fun δ => bd (e2 (gEq true) (eCb (gCallX 3 (M_shown C E_BadHand)) (zzz (eVar 0) (zzz (eVar 4) (zzz (eVar 5) aNil)))) (eVar 1) δ) tru)) [some (hs C m c), some (.d (.str z)), some (.tbl (kvsP m c)), some (.d (.list (W.map PyData.str))), some (.d (.list (ws.map prN))), some (.d (.int (j : Int)))] = rt (!decide (tx ws j = z)) := by
      refine or_no (not_is' (tst_is (call_is (a3_is (x := hs C m c) (y := .d (.list (ws.map prN))) (z := .d (.int (j : Int))) rfl rfl rfl) rfl rfl hhand)) rfl) (tst_is ((zkq (x := .d (.str (tx ws j))) (y := .d (.str z)) (callX_is (a3_is (x := hs C m c) (y := .d (.list (ws.map prN))) (z := .d (.int (j : Int))) rfl rfl rfl) rfl rfl hs1) rfl).trans ?_))
      rw [gEq_str]
      rfl
    by_cases ht : tx ws j = z
    · rw [if_pos ⟨rfl, ht⟩]
      rw [decide_eq_true ht] at test
      exact mir_is (x := .tpo [] (ws.map prN) [.int (j : Int)]) (go _ (sqN (δ' := [some (hs C m c), some (.d (.str z)), some (.tbl (kvsP m c)), some (.d (.list (W.map PyData.str))), some (.own (ws.map prN)), some (.d (.int (j : Int)))]) (ifF test rfl) (ret_is rfl)))
    · rw [if_neg (fun h => ht h.2)]
      rw [decide_eq_false ht] at test
      exact mir_er (go _ (sq_er (ifY test rfl)))
end
end K10
set_option Elab.async false
set_option linter.all false
set_option maxRecDepth 100000
set_option maxHeartbeats 1000000
set_option autoImplicit false
namespace K10
open PySem PySem.Spec L2 L3 LW
theorem num_fact : ∀ n ∈ List.range 14, ((n : Nat) : Int).natAbs.log2 < 1920 ∧ PyData.strOk (Str.ofString (toString ((n : Nat) : Int))) = true ∧ (Str.ofString (toString ((n : Nat) : Int))).length ≤ 3 := by decide +kernel
theorem strOk_app {a b : Str} (ha : PyData.strOk a = true) (hb : PyData.strOk b = true) : PyData.strOk (a ++ b) = true := by
  refine strOk_iff.mpr fun n hn => ?_
  rw [str_app] at hn
  rcases List.mem_append.mp hn with h | h
  · exact strOk_iff.mp ha n h
  · exact strOk_iff.mp hb n h
theorem len_app (a b : Str) : (a ++ b).length = a.length + b.length := by rw [str_len, str_app, List.length_append, ← str_len, ← str_len]
theorem addS {a b : Str} (h : a.length + b.length ≤ 1000000) (ha : PyData.strOk a = true) (hb : PyData.strOk b = true) : gAddS (.d (.str a)) (.d (.str b)) = rt (.d (.str (a ++ b))) := if_pos ⟨h, strOk_app ha hb⟩
theorem word_eq (n k : Nat) : Str.ofString (toString ((n : Nat) : Int)) ++ letter k = zjb (n, k) := by
  refine str_ext ?_
  unfold zjb
  rw [str_app, str_app, str_app]
  simp [Str.empty]
theorem wordE {fa fb : DS → M DV} {δ : DS} {n k : Nat} (hn : n ≤ 13) (hk : k < 4) (h1 : fa δ = rt (.d (.int (n : Int)))) (h2 : fb δ = rt (.d (.int (k : Int)))) : e2 gAddS (eCb gStrI (zzz fa aNil)) (e2 gIxC (eC (.str "abcd")) fb) δ = rt (.d (.str (zjb (n, k)))) := by
  have hn' := num_fact n (List.mem_range.mpr (by lia))
  have hk' := let_ok k (List.mem_range.mpr hk)
  refine ((zkq (x := .d (.str (Str.ofString (toString ((n : Nat) : Int))))) (y := .d (.str (letter k))) ?_ ?_).trans (addS (by have : (letter k).length = 1 := rfl; lia) hn'.2.1 hk'.2)).trans (by rw [word_eq])
  · refine (cb_is (a1_is (x := .d (.int (n : Int))) h1)).trans ?_
    exact if_pos ⟨hn'.1, hn'.2.1⟩
  · refine (zkq (x := .d (.str "abcd")) (y := .d (.int (k : Int))) rfl h2).trans ?_
    show bd (op (atI ("abcd" : Str).cps.toList ((k : Nat) : Int))) _ = _
    rw [hk'.1, zzb, zye, if_pos ⟨by decide +kernel, hk'.2⟩]
    rfl
noncomputable def tI : DS → M Out := fIf (fun δ => bd (e2 (gEq false) (eVar 0) (e2 gAddS (eCb gStrI (zzz (eVar 3) aNil)) (e2 gIxC (eC (.str "abcd")) (eVar 4))) δ) tru) (fRet (eTup (zzz (eVar 3) (zzz (eVar 4) aNil)))) fNil
noncomputable def tO : DS → M Out := fFor (iR1 (zzz (eVar 2) aNil)) (zjq 4) tI
noncomputable def tδ (w : Str) (m c : Nat) (x3 x4 : Option DV) : DS := [some (.d (.str w)), some (.d (.int (m : Int))), some (.d (.int (c : Int))), x3, x4]
theorem tile_turn (w : Str) (m c n k : Nat) (hn : n ≤ 13) (hk : k < 4) : tI (tδ w m c (some (.d (.int (n : Int)))) (some (.d (.int (k : Int))))) = if zjb (n, k) = w then rt (.rt (.d (prN (n, k)))) else rt (.nx (tδ w m c (some (.d (.int (n : Int)))) (some (.d (.int (k : Int)))))) := by
  unfold tI
  have ht : (fun δ => bd (e2 (gEq false) (eVar 0) (e2 gAddS (eCb gStrI (zzz (eVar 3) aNil)) (e2 gIxC (eC (.str "abcd")) (eVar 4))) δ) tru) (tδ w m c (some (.d (.int (n : Int)))) (some (.d (.int (k : Int))))) = rt (decide (w = zjb (n, k))) := tst_is ((zkq (x := .d (.str w)) (y := .d (.str (zjb (n, k)))) rfl (wordE hn hk rfl rfl)).trans (by rw [gEq_str]; simp))
  by_cases h : zjb (n, k) = w
  · rw [decide_eq_true h.symm] at ht
    rw [if_pos h]
    exact ifY ht (ret_is (t2_is rfl rfl))
  · rw [decide_eq_false (fun z => h z.symm)] at ht
    rw [if_neg h]
    exact ifF ht rfl
theorem tile_in (w : Str) (m c n : Nat) (hn : n ≤ 13) : ∀ (ks : List Nat) (x4 : Option DV), (∀ k ∈ ks, k < 4) → ∃ y4, loopD (zjq 4) tI (ks.map fun (k : Nat) => PyData.int (k : Int)) (tδ w m c (some (.d (.int (n : Int)))) x4) = match (ks.map fun k => (n, k)).find? (fun p => decide (zjb p = w)) with
    | some p => rt (.rt (.d (prN p)))
    | none => rt (.nx (tδ w m c (some (.d (.int (n : Int)))) y4))
  | [], x4, _ => ⟨x4, rfl⟩
  | k :: ks, x4, hk => by
    obtain ⟨y4, ih⟩ := tile_in w m c n hn ks (some (.d (.int (k : Int)))) fun k' h => hk k' (List.mem_cons_of_mem _ h)
    have ht := tile_turn w m c n k hn (hk k List.mem_cons_self)
    have hs : zjq 4 (.int (k : Int)) (tδ w m c (some (.d (.int (n : Int)))) x4) = some (tδ w m c (some (.d (.int (n : Int)))) (some (.d (.int (k : Int))))) := rfl
    refine ⟨y4, ?_⟩
    rw [List.map_cons, List.map_cons]
    unfold loopD
    rw [hs, zzb, zye, ht]
    by_cases h : zjb (n, k) = w
    · rw [if_pos h, zye, lpo_rt, List.find?_cons_of_pos (by simpa using h)]
    · rw [if_neg h, zye, lpo_nx, List.find?_cons_of_neg (by simpa using h)]
      exact ih
theorem tile_out (w : Str) (m c : Nat) (hc : c ≤ 4) : ∀ (ns : List Nat) (x3 x4 : Option DV), (∀ n ∈ ns, n < 13) → ∃ y3 y4, loopD (zjq 3) tO (ns.map fun (n : Nat) => PyData.int (1 + (n : Int))) (tδ w m c x3 x4) = match (ns.flatMap (rowP c)).find? (fun p => decide (zjb p = w)) with
    | some p => rt (.rt (.d (prN p)))
    | none => rt (.nx (tδ w m c y3 y4))
  | [], x3, x4, _ => ⟨x3, x4, rfl⟩
  | n :: ns, x3, x4, hn => by
    have hn' := hn n List.mem_cons_self
    obtain ⟨y4, hi⟩ := tile_in w m c (1 + n) (by lia) (List.range c) x4 (fun k h => by have := List.mem_range.mp h; lia)
    obtain ⟨z3, z4, ih⟩ := tile_out w m c hc ns (some (.d (.int (1 + (n : Int))))) y4 fun k' h => hn k' (List.mem_cons_of_mem _ h)
    have hs : zjq 3 (.int (1 + (n : Int))) (tδ w m c x3 x4) = some (tδ w m c (some (.d (.int (1 + (n : Int))))) x4) := rfl
    have e1 : ((1 + n : Nat) : Int) = 1 + (n : Int) := by lia
    rw [e1] at hi
    have hO : tO (tδ w m c (some (.d (.int (1 + (n : Int))))) x4) = match (rowP c n).find? (fun p => decide (zjb p = w)) with
      | some p => rt (.rt (.d (prN p)))
      | none => rt (.nx (tδ w m c (some (.d (.int (1 + (n : Int))))) y4)) := by
      unfold tO
      refine for_is (xs := (List.range c).map fun (k : Nat) => PyData.int (k : Int)) ?_ hi
      rw [iR1_is (j := (c : Int)) (a1_is rfl) (by lia) (by lia), show (c : Int).toNat = c by lia, run0]
    refine ⟨z3, z4, ?_⟩
    rw [List.map_cons, List.flatMap_cons, List.find?_append]
    unfold loopD
    rw [hs, zzb, zye, hO]
    cases hf : (rowP c n).find? (fun p => decide (zjb p = w)) with
    | some p => rfl
    | none => rw [Option.none_or]; exact ih
noncomputable def orN : Option (Nat × Nat) → D
  | some p => prN p
  | none => .none
theorem m_tileW (w : Str) {m c : Nat} (hm : m ≤ 13) (hc : c ≤ 4) : M__law_tile [.d (.str w), .d (.int (m : Int)), .d (.int (c : Int))] = rt (.d (orN (fnd m c w))) := by
  obtain ⟨y3, y4, h⟩ := tile_out w m c hc (List.range m) none none fun n hn => by have := List.mem_range.mp hn; lia
  have hf : fFor (iR2 (zzz (eC (.int 1)) (zzz (e2 gPlus3 (eVar 1) (eC (.int 1))) aNil))) (zjq 3) tO (tδ w m c none none) = _ := for_is (xs := (List.range m).map fun (n : Nat) => PyData.int (1 + (n : Int))) (by
    rw [iR2_is (a2_is (x := .d (.int 1)) rfl ((zkq (x := .d (.int (m : Int))) (y := .d (.int 1)) rfl rfl).trans (gPlus3_int _ _))) (by lia) (by lia) (by lia) (by lia), show ((m : Int) + 1 - 1).toNat = m by lia]
    rfl) h
  unfold M__law_tile F__law_tile
  change mir _ (fSq (fFor (iR2 (zzz (eC (.int 1)) (zzz (e2 gPlus3 (eVar 1) (eC (.int 1))) aNil))) (zjq 3) tO) (fRet (eC .none))) _ = _
  unfold fnd allP
  cases hq : ((List.range m).flatMap (rowP c)).find? (fun p => decide (zjb p = w)) with
  | some p =>
    rw [hq] at hf
    exact mir_is (x := .d (prN p)) (sq_rt hf)
  | none =>
    rw [hq] at hf
    exact mir_is (x := .d .none) (sqN hf (ret_is rfl))
end K10
set_option Elab.async false
set_option linter.all false
set_option maxRecDepth 100000
set_option maxHeartbeats 1000000
set_option autoImplicit false
namespace K10
open PySem PySem.Spec L2 L3 LW
theorem strip : ∀ (k : Nat) (W : List Str), W.length = k → ∃ W' n, W = W' ++ List.replicate n ("*" : Str) ∧ W'.getLast? ≠ some ("*" : Str)
  | 0, W, h => ⟨[], 0, by rw [List.eq_nil_of_length_eq_zero h]; rfl, by simp⟩
  | k + 1, W, h => by
    rcases List.eq_nil_or_concat W with e | ⟨V, w, e⟩
    · rw [e] at h; cases h
    · rw [List.concat_eq_append] at e
      subst e
      by_cases hw : w = ("*" : Str)
      · subst hw
        obtain ⟨W', n, e, hl⟩ := strip k V (by simpa using h)
        exact ⟨W', n + 1, by rw [List.replicate_succ', ← List.append_assoc, ← e], hl⟩
      · exact ⟨V ++ [w], 0, by simp, by rw [List.getLast?_concat]; simpa using hw⟩
theorem strip_uniq : ∀ (j n : Nat) (A B : List Str), A.getLast? ≠ some ("*" : Str) → B.getLast? ≠ some ("*" : Str) → A ++ List.replicate j ("*" : Str) = B ++ List.replicate n ("*" : Str) → A = B ∧ j = n
  | 0, 0, A, B, _, _, h => ⟨by simpa using h, rfl⟩
  | 0, n + 1, A, B, hA, _, h => by
    rw [List.replicate_succ', ← List.append_assoc] at h
    simp only [List.replicate_zero, List.append_nil] at h
    rw [h, List.getLast?_concat] at hA
    exact absurd rfl hA
  | j + 1, 0, A, B, _, hB, h => by
    rw [List.replicate_succ', ← List.append_assoc] at h
    simp only [List.replicate_zero, List.append_nil] at h
    rw [← h, List.getLast?_concat] at hB
    exact absurd rfl hB
  | j + 1, n + 1, A, B, hA, hB, h => by
    rw [List.replicate_succ', List.replicate_succ', ← List.append_assoc, ← List.append_assoc] at h
    obtain ⟨e1, e2⟩ := strip_uniq j n A B hA hB (List.append_inj_left' h rfl)
    exact ⟨e1, by rw [e2]⟩
noncomputable def wC : DS → M Bool := bAnd (fun δ => bd (e2 gGt (eCb gLen (zzz (eVar 3) aNil)) (eC (.int 0)) δ) tru) (fun δ => bd (e2 (gEq false) (e2 gIx (eVar 3) (eNeg (eC (.int 1)))) (eC (.str "*")) δ) tru)
noncomputable def wB : DS → M Out := fSq (fPop 3) (fSet 4 (e2 gPlus3 (eVar 4) (eC (.int 1))))
noncomputable def wδ (z : Str) (m c : Nat) (W : List Str) (i : Int) : DS := [some (.d (.str z)), some (.d (.int (m : Int))), some (.d (.int (c : Int))), some (.own (W.map PyData.str)), some (.d (.int i)), none]
theorem wC_is (z : Str) (m c : Nat) (W : List Str) (i : Int) : wC (wδ z m c W i) = rt (decide (W.getLast? = some ("*" : Str))) := by
  have hlen : eCb gLen (zzz (eVar 3) aNil) (wδ z m c W i) = rt (.d (.int ((W.map PyData.str).length : Int))) := (cb_is (a1_is (x := .own (W.map PyData.str)) rfl)).trans rfl
  have t1 : (fun δ => bd (e2 gGt (eCb gLen (zzz (eVar 3) aNil)) (eC (.int 0)) δ) tru) (wδ z m c W i) = rt (decide (0 < ((W.map PyData.str).length : Int))) := tst_is ((zkq (y := .d (.int 0)) hlen rfl).trans (zxb _ _))
  unfold wC
  rcases List.eq_nil_or_concat W with e | ⟨V, w, e⟩
  · subst e
    exact and_no t1
  · rw [List.concat_eq_append] at e
    subst e
    have hp : decide (0 < (((V ++ [w]).map PyData.str).length : Int)) = true := decide_eq_true (by simp <;> lia)
    rw [hp] at t1
    refine and_yes t1 (tst_is ((zkq (x := .d (.str w)) (y := .d (.str "*")) ?_ rfl).trans ?_))
    · refine (zkq (x := .own ((V ++ [w]).map PyData.str)) (y := .d (.int (-1))) rfl rfl).trans ?_
      show bd (op (atI ((V ++ [w]).map PyData.str) (-1))) _ = _
      have : atI ((V ++ [w]).map PyData.str) (-1) = some (.str w) := by
        unfold atI ixN
        rw [if_neg (by decide), if_pos (by simp; lia)]
        simp
        rw [show ((-1 : Int) + ((V.length : Int) + 1)).toNat = V.length by lia]
        simp
      rw [this]
      rfl
    · rw [gEq_str, List.getLast?_concat]
      simp
theorem wh_run (z : Str) (m c : Nat) (W' : List Str) (hl : W'.getLast? ≠ some ("*" : Str)) : ∀ (n : Nat) (i : Int) (fuel : Nat), n < fuel → fWh wC wB fuel (wδ z m c (W' ++ List.replicate n ("*" : Str)) i) = rt (.nx (wδ z m c W' (i + (n : Int))))
  | 0, i, 0, h => by lia
  | 0, i, f + 1, h => by
    unfold fWh
    rw [wC_is]
    simp only [List.replicate_zero, List.append_nil]
    rw [decide_eq_false hl, zye]
    simp
  | n + 1, i, 0, h => by lia
  | n + 1, i, f + 1, h => by
    have ih := wh_run z m c W' hl n (i + 1) f (by lia)
    unfold fWh
    rw [wC_is, List.replicate_succ', ← List.append_assoc, List.getLast?_concat, decide_eq_true rfl, zye, if_pos rfl]
    have hb : wB (wδ z m c (W' ++ List.replicate n ("*" : Str) ++ [("*" : Str)]) i) = rt (.nx (wδ z m c (W' ++ List.replicate n ("*" : Str)) (i + 1))) := by
      unfold wB
      refine sqN (δ' := wδ z m c (W' ++ List.replicate n ("*" : Str)) i) ?_ (setN (x := .d (.int (i + 1))) ((zkq (x := .d (.int i)) (y := .d (.int 1)) rfl rfl).trans (gPlus3_int _ _)) rfl rfl)
      unfold fPop
      show (if ((W' ++ List.replicate n ("*" : Str) ++ [("*" : Str)]).map PyData.str).length = 0 then none else _) = _
      rw [if_neg (by simp)]
      show rt (Out.nx ((wδ z m c (W' ++ List.replicate n ("*" : Str) ++ [("*" : Str)]) i).set 3 (some (.own ((W' ++ List.replicate n ("*" : Str) ++ [("*" : Str)]).map PyData.str).dropLast)))) = _
      rw [List.map_append, List.map_cons, List.map_nil, List.dropLast_concat]
      rfl
    rw [hb, zye]
    show fWh wC wB f (wδ z m c (W' ++ List.replicate n ("*" : Str)) (i + 1)) = _
    rw [ih, show i + 1 + (n : Int) = i + ((n + 1 : Nat) : Int) by lia]
noncomputable def dueR (m c : Nat) (W : List Str) (n : Nat) : Option (List (Nat × Nat) × Nat) :=
  if (∀ w ∈ W, (fnd m c w).isSome = true) ∧ inOrd ((W.filterMap (fnd m c)).map toI) = true ∧ n ≤ 2 ∧ (W.filterMap (fnd m c)).length ≤ 12 ∧ (∀ p ∈ W.filterMap (fnd m c), cnt ((W.filterMap (fnd m c)).map toI) (toI p) ≤ 2) then some (W.filterMap (fnd m c), n) else none
noncomputable def dueV : Option (List (Nat × Nat) × Nat) → D
  | some (ws, n) => .tuple [.list (ws.map prN), .int (n : Int)]
  | none => .none
theorem all_found {m c : Nat} : ∀ {W : List Str}, (∀ w ∈ W, (fnd m c w).isSome = true) → W.map (fun w => orN (fnd m c w)) = (W.filterMap (fnd m c)).map prN ∧ (W.filterMap (fnd m c)).map zjb = W
  | [], _ => ⟨rfl, rfl⟩
  | w :: W, h => by
    obtain ⟨h1, h2⟩ := all_found (W := W) fun v hv => h v (List.mem_cons_of_mem _ hv)
    have hw := h w List.mem_cons_self
    cases hf : fnd m c w with
    | none => rw [hf] at hw; cases hw
    | some p =>
      rw [List.map_cons, List.filterMap_cons_some hf, List.map_cons, List.map_cons, h1, h2, hf, (fnd_some hf).2]
      exact ⟨rfl, rfl⟩
theorem eqv_pn (p : Nat × Nat) : PyData.eqv (prN p) .none = false := rfl
theorem in_none {x : DV} {its : List D} (hx : asQ x = some (.list its)) : gIn false (.d .none) x = rt (.d (.bool (its.any fun z => PyData.eqv z .none))) := by
  unfold gIn
  rw [hx]
  simp only [asQ_d]
  rw [if_pos (by unfold PyData.depth; decide)]
  rfl
theorem max_two (ns : List Int) : decide (2 < mxD 0 ns) = !(ns.all fun a => decide (a ≤ 2)) := by
  cases ns with
  | nil => rfl
  | cons a r =>
    obtain ⟨h1, h2, h3⟩ := mx_fold r a
    by_cases h : (2 : Int) < mxD 0 (a :: r)
    · rw [decide_eq_true h]
      symm
      rw [Bool.not_eq_true']
      rw [List.all_eq_false]
      have h' : (2 : Int) < r.foldl max a := h
      rcases h1 with e | e
      · exact ⟨a, List.mem_cons_self, by simp; lia⟩
      · exact ⟨_, List.mem_cons_of_mem _ e, by simp; lia⟩
    · rw [decide_eq_false h]
      symm
      rw [Bool.not_eq_false', List.all_eq_true]
      have h' : r.foldl max a ≤ 2 := by
        have : ¬ (2 : Int) < r.foldl max a := h
        lia
      intro x hx
      rcases List.mem_cons.mp hx with e | e
      · rw [e]; simp; lia
      · have := h3 x e
        simp; lia
theorem m_due {m c : Nat} (hm : m ≤ 13) (hc : c ≤ 4) {z : Str} (hz : z.length ≤ 80) (ho : PyData.strOk z = true) (hne : z ≠ ("-" : Str)) {W' : List Str} {n : Nat} (hW : Txt.split z " " = W' ++ List.replicate n ("*" : Str)) (hl : W'.getLast? ≠ some ("*" : Str)) : M__law_due [.d (.str z), .d (.int (m : Int)), .d (.int (c : Int))] = rt (.d (dueV (dueR m c W' n))) := by
  have hlw := sp_len z
  have hok : splitOk z " " = true := splitOk_of (by lia) rfl (by lia) (sp_ok ho)
  have hlen : W'.length + n ≤ 81 := by rw [hW, List.length_append, List.length_replicate] at hlw; lia
  unfold M__law_due
  refine mir_is (x := .d (dueV (dueR m c W' n))) ?_
  unfold F__law_due
  refine sqN (δ' := [some (.d (.str z)), some (.d (.int (m : Int))), some (.d (.int (c : Int))), none, none, none]) (ifF (tst_is ((zkq (x := .d (.str z)) (y := .d (.str "-")) rfl rfl).trans (by rw [gEq_str]; simp [hne]))) rfl) ?_
  refine sqN (δ' := [some (.d (.str z)), some (.d (.int (m : Int))), some (.d (.int (c : Int))), some (.own ((Txt.split z " ").map PyData.str)), none, none]) (setN (x := .new ((Txt.split z " ").map PyData.str)) ?_ rfl rfl) ?_
  · unfold eSplit
    show gSplit z (.d (.str " ")) = _
    unfold gSplit
    simp only
    rw [if_pos hok]
  refine sqN (δ' := wδ z m c (W' ++ List.replicate n ("*" : Str)) 0) (by rw [hW]; rfl) ?_
  refine sqN (δ' := wδ z m c W' (0 + (n : Int))) (wh_run z m c W' hl n 0 100 (by lia)) ?_
  rw [Int.zero_add]
  change fSq _ _ [some (.d (.str z)), some (.d (.int (m : Int))), some (.d (.int (c : Int))), some (.d (.list (W'.map PyData.str))), some (.d (.int (n : Int))), none] = _
  refine sqN (δ' := [some (.d (.str z)), some (.d (.int (m : Int))), some (.d (.int (c : Int))), some (.d (.list (W'.map PyData.str))), some (.d (.int (n : Int))), some (.own (W'.map fun w => orN (fnd m c w)))]) (setN (x := .new (W'.map fun w => orN (fnd m c w))) (eComp_is (xs := W'.map PyData.str) (iLs_is rfl) (by rw [List.length_map]; lia) (comp_by (f := PyData.str) (g := fun w => orN (fnd m c w)) fun w _ => call_is (n := 3) (a3_is (x := .d (.str w)) (y := .d (.int (m : Int))) (z := .d (.int (c : Int))) rfl rfl rfl) rfl rfl (m_tileW w hm hc))) rfl rfl) ?_
  by_cases hall : ∀ w ∈ W', (fnd m c w).isSome = true
  · obtain ⟨a1, a2⟩ := all_found hall
    rw [a1]
    have hwt : (W'.filterMap (fnd m c)).length ≤ 40 := by
      have h1 := sp_wt z
      rw [hW, ← a2] at h1
      have h2 : ∀ (L : List (Nat × Nat)), (∀ p ∈ L, p ∈ allP m c) → 3 * L.length ≤ wt (chs (L.map zjb)) := by
        intro L
        induction L with
        | nil => intro _; simp
        | cons p L ih =>
          intro h
          have := ih fun q hq => h q (List.mem_cons_of_mem _ hq)
          obtain ⟨b1, b2, b3⟩ := mem_allP (h p List.mem_cons_self)
          have hw2 : 2 ≤ (zjb p).cps.toList.length := by
            have := (show ∀ n ∈ List.range 14, ∀ k ∈ List.range 4, 1 ≤ n → 2 ≤ (zjb (n, k)).cps.toList.length by decide +kernel) p.1 (List.mem_range.mpr (by lia)) p.2 (List.mem_range.mpr (by lia)) b1
            exact this
          unfold chs at this ⊢
          rw [List.map_cons, List.map_cons, wt_cons, List.length_cons]
          lia
      have h3 := h2 (W'.filterMap (fnd m c)) fun p hp => by
        obtain ⟨w, _, hw⟩ := List.mem_filterMap.mp hp
        exact (fnd_some hw).1
      have h4 : ∀ (A B : List (List Nat)), wt (A ++ B) = wt A + wt B := fun A B => by unfold wt; simp
      unfold chs at h1 h3
      rw [List.map_append, h4] at h1
      lia
    generalize hws : W'.filterMap (fnd m c) = ws at *
    obtain ⟨qs, hq, hql⟩ := srt_prs (ws.map toI)
    have hsrt : gSrt [.own (ws.map prN)] = rt (.new (qs.map pr)) := by
      have := gSrt_is (x := .own (ws.map prN)) (ps := ws.map toI) (by rw [prs_toI]; rfl) (by rw [List.length_map]; lia)
      rw [this, hq]
    have hin := sorted_iff hq
    have hany : ((ws.map prN).any fun z => PyData.eqv z .none) = false := List.any_eq_false.mpr fun z hz => by
      obtain ⟨p, _, rfl⟩ := List.mem_map.mp hz
      rw [eqv_pn]; decide
    have t1 : (fun δ => bd (e2 (gIn false) (eC .none) (eVar 5) δ) tru) [some (.d (.str z)), some (.d (.int (m : Int))), some (.d (.int (c : Int))), some (.d (.list (W'.map PyData.str))), some (.d (.int (n : Int))), some (.own (ws.map prN))] = rt false := tst_is ((zkq (x := .d .none) (y := .own (ws.map prN)) rfl rfl).trans ((in_none rfl).trans (by rw [hany])))
    have t2 : (fun δ => bd (e2 (gEq true) (eVar 5) (eCb gSrt (zzz (eVar 5) aNil)) δ) tru) [some (.d (.str z)), some (.d (.int (m : Int))), some (.d (.int (c : Int))), some (.d (.list (W'.map PyData.str))), some (.d (.int (n : Int))), some (.own (ws.map prN))] = rt (!inOrd (ws.map toI)) := tst_is ((zkq (x := .own (ws.map prN)) (y := .new (qs.map pr)) rfl ((cb_is (a1_is (x := .own (ws.map prN)) rfl)).trans hsrt)).trans ((gEq_prs2 (neg := true) (ps := ws.map toI) (qs := qs) (by rw [prs_toI]; rfl) rfl).trans (by rw [hin]; rfl)))
    have t3 : (fun δ => bd (e2 gGt (eVar 4) (eC (.int 2)) δ) tru) [some (.d (.str z)), some (.d (.int (m : Int))), some (.d (.int (c : Int))), some (.d (.list (W'.map PyData.str))), some (.d (.int (n : Int))), some (.own (ws.map prN))] = rt (decide ((2 : Int) < (n : Int))) := tst_is ((zkq (x := .d (.int (n : Int))) (y := .d (.int 2)) rfl rfl).trans (zxb _ _))
    have t4 : (fun δ => bd (e2 gGt (eCb gLen (zzz (eVar 5) aNil)) (eC (.int 12)) δ) tru) [some (.d (.str z)), some (.d (.int (m : Int))), some (.d (.int (c : Int))), some (.d (.list (W'.map PyData.str))), some (.d (.int (n : Int))), some (.own (ws.map prN))] = rt (decide ((12 : Int) < ((ws.map prN).length : Int))) := tst_is ((zkq (x := .d (.int ((ws.map prN).length : Int))) (y := .d (.int 12)) ((cb_is (a1_is (x := .own (ws.map prN)) rfl)).trans rfl) rfl).trans (zxb _ _))
    have tt : (bOr (fun δ => bd (e2 (gIn false) (eC .none) (eVar 5) δ) tru) (bOr (fun δ => bd (e2 (gEq true) (eVar 5) (eCb gSrt (zzz (eVar 5) aNil)) δ) tru) (bOr (fun δ => bd (e2 gGt (eVar 4) (eC (.int 2)) δ) tru) (fun δ => bd (e2 gGt (eCb gLen (zzz (eVar 5) aNil)) (eC (.int 12)) δ) tru)))) [some (.d (.str z)), some (.d (.int (m : Int))), some (.d (.int (c : Int))), some (.d (.list (W'.map PyData.str))), some (.d (.int (n : Int))), some (.own (ws.map prN))] = rt (!inOrd (ws.map toI) || (decide ((2 : Int) < (n : Int)) || decide ((12 : Int) < ((ws.map prN).length : Int)))) := by
      refine or_no t1 ?_
      refine or_is t2 ?_
      exact or_is t3 t4
    unfold dueR
    rw [hws]
    cases hb : (!inOrd (ws.map toI) || (decide ((2 : Int) < (n : Int)) || decide ((12 : Int) < ((ws.map prN).length : Int)))) with
    | true =>
      rw [hb] at tt
      refine (sq_rt (ifY tt (ret_is (x := .d .none) rfl))).trans ?_
      rw [if_neg]
      · rfl
      · rintro ⟨_, h1, h2, h3, _⟩
        rw [h1] at hb
        simp at hb
        lia
    | false =>
      rw [hb] at tt
      simp at hb
      refine sqN (ifF tt rfl) ?_
      change fSq _ _ [some (.d (.str z)), some (.d (.int (m : Int))), some (.d (.int (c : Int))), some (.d (.list (W'.map PyData.str))), some (.d (.int (n : Int))), some (.d (.list (ws.map prN)))] = _
      have hcomp : eComp 1 [5] (iLs (eVar 5)) (zjq 0) bYes (eCnt (eVar 1) (eVar 0)) [some (.d (.str z)), some (.d (.int (m : Int))), some (.d (.int (c : Int))), some (.d (.list (W'.map PyData.str))), some (.d (.int (n : Int))), some (.d (.list (ws.map prN)))] = rt (.new ((ws.map fun p => cnt (ws.map toI) (toI p)).map PyData.int)) := by
        rw [List.map_map]
        refine eComp_is (xs := ws.map prN) (iLs_is rfl) (by rw [List.length_map]; lia) (comp_by (f := prN) (g := PyData.int ∘ fun p => cnt (ws.map toI) (toI p)) fun p _ => ?_)
        have := gCnt_lst (ws.map toI) (toI p)
        rw [prs_toI] at this
        exact (cnt_is (x := .d (.list (ws.map prN))) (y := .d (prN p)) rfl rfl rfl).trans this
      have hmx : eMaxD 0 (zzz (eComp 1 [5] (iLs (eVar 5)) (zjq 0) bYes (eCnt (eVar 1) (eVar 0))) aNil) [some (.d (.str z)), some (.d (.int (m : Int))), some (.d (.int (c : Int))), some (.d (.list (W'.map PyData.str))), some (.d (.int (n : Int))), some (.d (.list (ws.map prN)))] = rt (.d (.int (mxD 0 (ws.map fun p => cnt (ws.map toI) (toI p))))) := by
        unfold eMaxD
        rw [a1_is hcomp, zye]
        show gMaxD 0 _ = _
        unfold gMaxD
        simp only [zxd, zzb, zye]
        rw [intsL_map, zzb, zye]
      have t5 : (fun δ => bd (e2 gGt (eMaxD 0 (zzz (eComp 1 [5] (iLs (eVar 5)) (zjq 0) bYes (eCnt (eVar 1) (eVar 0))) aNil)) (eC (.int 2)) δ) tru) [some (.d (.str z)), some (.d (.int (m : Int))), some (.d (.int (c : Int))), some (.d (.list (W'.map PyData.str))), some (.d (.int (n : Int))), some (.d (.list (ws.map prN)))] = rt (!((ws.map fun p => cnt (ws.map toI) (toI p)).all fun a => decide (a ≤ 2))) := tst_is ((zkq (y := .d (.int 2)) hmx rfl).trans ((zxb _ _).trans (by rw [max_two])))
      cases ha : ((ws.map fun p => cnt (ws.map toI) (toI p)).all fun a => decide (a ≤ 2)) with
      | true =>
        rw [ha] at t5
        refine (sqN (ifF t5 rfl) (ret_is (x := .d (.tuple [.list (ws.map prN), .int (n : Int)])) rfl)).trans ?_
        rw [if_pos]
        · rfl
        · refine ⟨hall, hb.1, by lia, by lia, fun p hp => ?_⟩
          rw [List.all_eq_true] at ha
          have := ha _ (List.mem_map_of_mem (f := fun p => cnt (ws.map toI) (toI p)) hp)
          simpa using this
      | false =>
        rw [ha] at t5
        refine (sq_rt (ifY t5 (ret_is (x := .d .none) rfl))).trans ?_
        rw [if_neg]
        · rfl
        · rintro ⟨_, _, _, _, h5⟩
          rw [List.all_eq_false] at ha
          obtain ⟨x, hx, hx2⟩ := ha
          obtain ⟨p, hp, rfl⟩ := List.mem_map.mp hx
          have := h5 p hp
          simp at hx2
          lia
  · have t1 : (fun δ => bd (e2 (gIn false) (eC .none) (eVar 5) δ) tru) [some (.d (.str z)), some (.d (.int (m : Int))), some (.d (.int (c : Int))), some (.d (.list (W'.map PyData.str))), some (.d (.int (n : Int))), some (.own (W'.map fun w => orN (fnd m c w)))] = rt true := by
      refine tst_is ((zkq (x := .d .none) (y := .own (W'.map fun w => orN (fnd m c w))) rfl rfl).trans ((in_none rfl).trans ?_))
      have : ((W'.map fun w => orN (fnd m c w)).any fun z => PyData.eqv z .none) = true := by
        rw [List.any_eq_true]
        obtain ⟨w, hwn⟩ := Classical.not_forall.mp hall
        obtain ⟨hw, hn⟩ := Classical.not_imp.mp hwn
        refine ⟨.none, List.mem_map.mpr ⟨w, hw, ?_⟩, rfl⟩
        cases hf : fnd m c w with
        | none => rfl
        | some p => rw [hf] at hn; exact absurd rfl hn
      rw [this]
    refine (sq_rt (ifY (or_yes t1) (ret_is (x := .d .none) rfl))).trans ?_
    unfold dueR
    rw [if_neg (fun h => hall h.1)]
    rfl
theorem m_dueD {m c : Nat} : M__law_due [.d (.str "-"), .d (.int (m : Int)), .d (.int (c : Int))] = rt (.d (dueV (some ([], 0)))) := by
  unfold M__law_due F__law_due
  exact mir_is (x := .d (.tuple [.list [], .int 0])) (sq_rt (ifY (tst_is ((zkq (x := .d (.str "-")) (y := .d (.str "-")) rfl rfl).trans (by rw [gEq_str]; simp))) rfl))
end K10
set_option Elab.async false
set_option linter.all false
set_option maxRecDepth 100000
set_option maxHeartbeats 1000000
set_option autoImplicit false
namespace K10
open PySem PySem.Spec L2 L3 LW
section
variable {m c : Nat}
theorem fm_star (hm : m ≤ 13) (hc : c ≤ 4) (W : List Str) (n : Nat) : (W ++ List.replicate n ("*" : Str)).filterMap (fnd m c) = W.filterMap (fnd m c) := by
  rw [List.filterMap_append]
  have : ∀ k, (List.replicate k ("*" : Str)).filterMap (fnd m c) = [] := fun k => by
    induction k with
    | zero => rfl
    | succ k ih => rw [List.replicate_succ, List.filterMap_cons_none (fnd_star hm hc), ih]
  rw [this, List.append_nil]
theorem nst_star (W : List Str) (n : Nat) : nst (W ++ List.replicate n ("*" : Str)) = nst W + n := by
  unfold nst
  rw [List.countP_append, List.countP_replicate]
  simp
theorem nst_zero (hm : m ≤ 13) (hc : c ≤ 4) {W : List Str} (h : ∀ w ∈ W, (fnd m c w).isSome = true) : nst W = 0 := by
  unfold nst
  refine List.countP_eq_zero.mpr fun w hw => ?_
  have := h w hw
  simp
  intro e
  rw [e, fnd_star hm hc] at this
  cases this
theorem handOk_iff {ws : List (Nat × Nat)} {n : Nat} (hw : ∀ p ∈ ws, 1 ≤ p.1 ∧ p.1 ≤ m ∧ p.2 < c) : handOk m c (ws.map toI) n = true ↔ inOrd (ws.map toI) = true ∧ n ≤ 2 ∧ ws.length ≤ 12 ∧ ∀ p ∈ ws, cnt (ws.map toI) (toI p) ≤ 2 := by
  have ht : ∀ p ∈ ws, tileOk m c (toI p) = true := fun p hp => by
    obtain ⟨h1, h2, h3⟩ := hw p hp
    unfold tileOk toI
    simp
    lia
  unfold handOk jok
  rw [Bool.and_eq_true, Bool.and_eq_true, Bool.and_eq_true, Bool.and_eq_true, decide_eq_true_iff, decide_eq_true_iff, decide_eq_true_iff, List.all_eq_true]
  constructor
  · rintro ⟨⟨⟨h1, _, h2⟩, h3⟩, h4⟩
    refine ⟨h4, by lia, by rw [List.length_map] at h1; exact h1, fun p hp => ?_⟩
    have := h3 _ (List.mem_map_of_mem (f := tok m c (ws.map toI)) (List.mem_map_of_mem (f := toI) hp))
    unfold tok at this
    simp at this
    exact this.2
  · rintro ⟨h1, h2, h3, h4⟩
    refine ⟨⟨⟨by rw [List.length_map]; exact h3, by lia, by lia⟩, fun x hx => ?_⟩, h1⟩
    obtain ⟨q, hq, rfl⟩ := List.mem_map.mp hx
    obtain ⟨p, hp, rfl⟩ := List.mem_map.mp hq
    unfold tok
    rw [ht p hp, decide_eq_true (h4 p hp)]
    rfl
theorem rd_due (hm : m ≤ 13) (hc : c ≤ 4) {z : Str} (hne : z ≠ ("-" : Str)) {W' : List Str} {n : Nat} (hW : Txt.split z " " = W' ++ List.replicate n ("*" : Str)) (hl : W'.getLast? ≠ some ("*" : Str)) : rdR m c z = dueR m c W' n := by
  have hw := fnd_tiles (m := m) (c := c) W'
  have hback := sp_back z
  unfold rdR dueR
  rw [hW, fm_star hm hc, nst_star]
  by_cases hall : ∀ w ∈ W', (fnd m c w).isSome = true
  · rw [nst_zero hm hc hall, Nat.zero_add]
    have htx : tx (W'.filterMap (fnd m c)) n = z := by
      have hwd : words (W'.filterMap (fnd m c)) n = Txt.split z " " := by unfold words; rw [(all_found hall).2, hW]
      unfold tx
      rw [hwd, hback, if_neg]
      intro h
      exact split_ne z " " (List.isEmpty_iff.mp h)
    by_cases hh : handOk m c ((W'.filterMap (fnd m c)).map toI) n = true
    · rw [if_pos ⟨hh, htx⟩, if_pos ⟨hall, (handOk_iff hw).mp hh⟩]
    · rw [if_neg (fun h => hh h.1), if_neg (fun h => hh ((handOk_iff hw).mpr h.2))]
  · rw [if_neg, if_neg (fun h => hall h.1)]
    rintro ⟨hh, ht⟩
    refine hall fun w hw' => ?_
    have hwf := words_fact (j := nst W' + n) hm hc hw
    have hsp : Txt.split z " " = words (W'.filterMap (fnd m c)) (nst W' + n) := by
      rw [← ht]
      unfold tx
      split
      · rename_i he
        exfalso
        apply hne
        rw [← ht]
        unfold tx
        rw [if_pos he]
      · rename_i he
        rw [sp_is]
        exact split_join (by simpa [List.isEmpty_iff] using he) fun w hw' => (hwf w hw').1
    rw [hW] at hsp
    unfold words at hsp
    obtain ⟨e1, _⟩ := strip_uniq n (nst W' + n) W' ((W'.filterMap (fnd m c)).map zjb) hl (fun h => by
      obtain ⟨p, hp, e⟩ := List.mem_map.mp (List.mem_of_getLast? h)
      exact (tile_fact hm hc hw hp).2.2.2.1 e) hsp
    rw [e1] at hw'
    obtain ⟨p, hp, rfl⟩ := List.mem_map.mp hw'
    obtain ⟨v, _, hv⟩ := List.mem_filterMap.mp hp
    rw [fnd_word hm hc (fnd_some hv).1]
    rfl
theorem rd_dash (hm : m ≤ 13) (hc : c ≤ 4) : rdR m c ("-" : Str) = some ([], 0) := by
  have hs : Txt.split ("-" : Str) " " = [("-" : Str)] := by decide +kernel
  unfold rdR
  rw [hs, List.filterMap_cons_none (fnd_dash hm hc)]
  exact if_pos ⟨rfl, rfl⟩
theorem m_dueG (hm : m ≤ 13) (hc : c ≤ 4) {z : Str} (hz : z.length ≤ 80) (ho : PyData.strOk z = true) : M__law_due [.d (.str z), .d (.int (m : Int)), .d (.int (c : Int))] = rt (.d (dueV (rdR m c z))) := by
  by_cases hne : z = ("-" : Str)
  · rw [hne, m_dueD, rd_dash hm hc]
  · obtain ⟨W', n, hW, hl⟩ := strip _ (Txt.split z " ") rfl
    rw [m_due hm hc hz ho hne hW hl, rd_due hm hc hne hW hl]
noncomputable def metV : Option (List (Nat × Nat) × Nat) → DV
  | some (ws, j) => .nwt [] (ws.map prN) [.int (j : Int)]
  | none => .d (.bool true)
theorem m_metG (C E_BadHand E_BadNote : Addr) (hm : m ≤ 13) (hc : c ≤ 4) {z : Str} (hz : z.length ≤ 900) (ho : PyData.strOk z = true) : M__law_met C E_BadHand E_BadNote [hs C m c, .d (.str z)] = rt (metV (rdR m c z)) := by
  have hr := m_readG C E_BadHand E_BadNote hm hc hz ho
  unfold M__law_met F__law_met
  cases hq : rdR m c z with
  | none =>
    rw [hq] at hr
    exact mir_is (x := .d (.bool true)) (try_er (ret_er (callX_is (a2_is (x := hs C m c) (y := .d (.str z)) rfl rfl) rfl rfl hr)))
  | some p =>
    obtain ⟨ws, j⟩ := p
    rw [hq] at hr
    exact mir_is (x := .nwt [] (ws.map prN) [.int (j : Int)]) (try_rt (ret_is (callX_is (a2_is (x := hs C m c) (y := .d (.str z)) rfl rfl) rfl rfl hr)))
end
theorem slice_mem {z : Str} {lo hi : Option Int} {n : Nat} (h : n ∈ (Txt.slice z lo hi).cps.toList) : n ∈ z.cps.toList := by
  unfold Txt.slice at h
  split at h
  · exact h
  · simp at h
    obtain ⟨i, _, hi⟩ := h
    rw [Array.mem_toList_iff]
    exact Array.mem_of_getElem? hi
theorem slice_ok {z : Str} (lo hi : Option Int) (h : PyData.strOk z = true) : PyData.strOk (Txt.slice z lo hi) = true := strOk_iff.mpr fun n hn => strOk_iff.mp h n (slice_mem hn)
theorem cutH_len {z : Str} {i : Nat} (h : i ≤ z.length) : (Txt.slice z none (some (i : Int))).length = i := by
  rw [str_len] at h
  have e : Txt.slice z none (some (i : Int)) = _ := StrLaws.sliceText_to (x := z) (j := (i : Int)) ⟨by lia, by lia⟩
  rw [e, str_len]
  simp
  simp at h
  exact Nat.min_eq_left h
theorem cutL_len {z : Str} {i : Nat} (h : i ≤ z.length) : (Txt.slice z (some (i : Int)) none).length = z.length - i := by
  have h' := h
  rw [str_len] at h'
  have e : Txt.slice z (some (i : Int)) none = _ := StrLaws.sliceText_from (x := z) (i := (i : Int)) ⟨by lia, by lia⟩
  rw [e, str_len, str_len z]
  simp
  try lia
theorem cutL_over (z : Str) : Txt.slice z (some ((z.length : Int) + 1)) none = Txt.slice z (some (z.length : Int)) none := by
  have : Builtin.Str.strSliceIndices (some ((z.length : Int) + 1)) none 1 z.length = Builtin.Str.strSliceIndices (some (z.length : Int)) none 1 z.length := by
    unfold Builtin.Str.strSliceIndices
    have h1 : ¬ ((z.length : Int) + 1 < 0) := by lia
    have h2 : ¬ ((z.length : Int) < 0) := by lia
    simp only [if_neg h1, if_neg h2]
    rw [show min ((z.length : Int) + 1) (z.length : Int) = min (z.length : Int) (z.length : Int) by lia]
    rfl
  unfold Txt.slice
  rw [this]
theorem cutL_len1 {z : Str} {i : Nat} (h : i ≤ z.length) : (Txt.slice z (some ((i : Int) + 1)) none).length ≤ z.length - i := by
  by_cases hi : i = z.length
  · subst hi
    rw [cutL_over, cutL_len (Nat.le_refl _)]
    lia
  · have := cutL_len (z := z) (i := i + 1) (by lia)
    rw [show ((i + 1 : Nat) : Int) = (i : Int) + 1 by lia] at this
    lia
end K10
set_option Elab.async false
set_option linter.all false
set_option maxRecDepth 100000
set_option maxHeartbeats 1000000
set_option autoImplicit false
namespace K10
open PySem PySem.Spec L2 L3 LW
noncomputable def signs : Str := " 0123456789abcde*-+_\t\n"
noncomputable def sgn (r : Nat) : Str := ⟨#[signs.cps.toList.getD r 0]⟩
theorem sign_fact : ∀ r ∈ List.range 22, atI signs.cps.toList ((r : Nat) : Int) = some (signs.cps.toList.getD r 0) ∧ PyData.strOk (sgn r) = true := by decide +kernel
theorem signs_len : signs.length = 22 := by decide +kernel
noncomputable def odd17 : List Str := ["", "-", "*", "01a", "1", "a", "14a", "13d", "0a", "1_0a", "+1a", "1A", "1a\t", "3a", "1e", "1aa", "100a"]
noncomputable def odd3 : List Str := ["* *", "-1a", "2b"]
noncomputable def oddL : List Str := odd17 ++ odd3
theorem odd_fact : ∀ w ∈ oddL, PyData.strOk w = true ∧ w.length ≤ 4 := by decide +kernel
theorem odd_len : oddL.length = 20 := rfl
noncomputable def sδ (z : Str) (cell : Int) (x3 x4 x5 x6 x7 x8 : Option DV) : DS := [some (.d (.str z)), some (.d (.int cell)), some (.d (.str signs)), x3, x4, x5, x6, x7, x8]
theorem lenT_is {z : Str} (h : z.length ≤ 1000000) : gLenT [.d (.str z)] = rt (.d (.int (z.length : Int))) := if_pos h
theorem l3_is {fa fb fc : DS → M DV} {δ : DS} {a b d : D} (h1 : fa δ = rt (.d a)) (h2 : fb δ = rt (.d b)) (h3 : fc δ = rt (.d d)) : eLst (zzz fa (zzz fb (zzz fc aNil))) δ = rt (.new [a, b, d]) := by
  unfold eLst
  rw [a3_is h1 h2 h3]
  rfl
theorem cutHT_is {fa fb : DS → M DV} {δ : DS} {z : Str} {i : Int} (h1 : fa δ = rt (.d (.str z))) (h2 : fb δ = rt (.d (.int i))) (hl : z.length ≤ 1000000) (ho : PyData.strOk z = true) : eCutHT fa fb δ = rt (.d (.str (Txt.slice z none (some i)))) := by
  unfold eCutHT
  rw [h1, zye, h2, zye]
  show gCutT (.d (.str z)) none (some i) = _
  exact if_pos ⟨hl, slice_ok _ _ ho⟩
theorem cutLT_is {fa fb : DS → M DV} {δ : DS} {z : Str} {i : Int} (h1 : fa δ = rt (.d (.str z))) (h2 : fb δ = rt (.d (.int i))) (hl : z.length ≤ 1000000) (ho : PyData.strOk z = true) : eCutLT fa fb δ = rt (.d (.str (Txt.slice z (some i) none))) := by
  unfold eCutLT
  rw [h1, zye, h2, zye]
  show gCutT (.d (.str z)) (some i) none = _
  exact if_pos ⟨hl, slice_ok _ _ ho⟩
theorem join_len {V : List Str} (h : V ≠ []) : (Txt.join " " V).length + 1 = wt (chs V) := by
  rw [str_len, sp_is, join_l]
  exact jn_wt 32 (by simpa using h)
theorem wt_mem {V : List Str} {w : Str} (h : w ∈ V) : w.length + 1 ≤ wt (chs V) := by
  induction V with
  | nil => cases h
  | cons v V ih =>
    unfold chs at ih ⊢
    rw [List.map_cons, wt_cons]
    rcases List.mem_cons.mp h with e | e
    · rw [e, str_len]; lia
    · have := ih e; lia
theorem wt_app (A B : List Str) : wt (chs (A ++ B)) = wt (chs A) + wt (chs B) := by unfold wt chs; simp
theorem wt_one (w : Str) : wt (chs [w]) = w.length + 1 := by rw [str_len]; unfold wt chs; simp
theorem wt_set (w : Str) : ∀ (V : List Str) (k : Nat), wt (chs (V.set k w)) ≤ wt (chs V) + (w.length + 1)
  | [], _ => by simp [chs, wt]
  | v :: V, 0 => by
    unfold chs
    rw [List.set_cons_zero, List.map_cons, List.map_cons, wt_cons, wt_cons, str_len]
    lia
  | v :: V, k + 1 => by
    have := wt_set w V k
    unfold chs at this ⊢
    rw [List.set_cons_succ, List.map_cons, List.map_cons, wt_cons, wt_cons]
    lia
theorem wt_erase : ∀ (V : List Str) (b : Nat) (w : Str), V[b]? = some w → wt (chs (V.eraseIdx b)) + (w.length + 1) = wt (chs V)
  | [], b, w, h => by simp at h
  | v :: V, 0, w, h => by
    simp at h
    subst h
    unfold chs
    rw [List.eraseIdx_cons_zero, List.map_cons, wt_cons, str_len]
    lia
  | v :: V, b + 1, w, h => by
    have := wt_erase V b w (by simpa using h)
    unfold chs at this ⊢
    rw [List.eraseIdx_cons_succ, List.map_cons, List.map_cons, wt_cons, wt_cons]
    lia
theorem wt_ins (V : List Str) (w : Str) (k : Nat) : wt (chs (V.take k ++ w :: V.drop k)) = wt (chs V) + (w.length + 1) := by
  have h : wt (chs (V.take k)) + wt (chs (V.drop k)) = wt (chs V) := by rw [← wt_app, List.take_append_drop]
  rw [show V.take k ++ w :: V.drop k = V.take k ++ ([w] ++ V.drop k) from rfl, wt_app, wt_app, wt_one]
  lia
theorem eraseIdx_map' {α β : Type} (f : α → β) : ∀ (l : List α) (b : Nat), (l.map f).eraseIdx b = (l.eraseIdx b).map f
  | [], _ => rfl
  | x :: l, 0 => rfl
  | x :: l, b + 1 => by rw [List.map_cons, List.eraseIdx_cons_succ, List.eraseIdx_cons_succ, List.map_cons, eraseIdx_map' f l b]
theorem sp_end {z : Str} {cell : Int} {x3 x4 x5 x7 x8 : Option DV} {V : List Str} {N : Nat} (hV : V ≠ []) (hw : wt (chs V) ≤ N + 1) (hN : N ≤ 200) (ho : ∀ w ∈ V, PyData.strOk w = true) : ∃ z', fRet (eJoin (eC (.str " ")) (eVar 6)) (sδ z cell x3 x4 x5 (some (.own (V.map PyData.str))) x7 x8) = rt (.rt (.d (.str z'))) ∧ PyData.strOk z' = true ∧ z'.length ≤ N := by
  refine ⟨Txt.join " " V, ret_is ?_, by rw [sp_is]; exact join_ok (by decide) ho, by have := join_len hV; lia⟩
  show gJoin " " (.own (V.map PyData.str)) = _
  have hl : V.length ≤ 201 := by
    have := wt_len (chs V)
    unfold chs at this hw
    rw [List.length_map] at this
    lia
  unfold gJoin
  simp only [asL, zzb, zye, strsL_map]
  rw [sp_is, if_pos ⟨joinOk (B := 201) (fun w hw' => by have := wt_mem hw'; lia) (by lia), join_ok (by decide) ho⟩]
theorem put_is {i : Nat} {fk fe : DS → M DV} {δ : DS} {xs : List D} {x : DV} {d : D} {k : Int} {j : Nat} (hi : δ[i]? = some (some (.own xs))) (he : fe δ = rt x) (hd : asD x = some d) (hk : fk δ = rt (.d (.int k))) (hj : ixN xs.length k = some j) : fPut i fk fe δ = rt (.nx (δ.set i (some (.own (xs.set j d))))) := by
  unfold fPut
  rw [hi]
  simp only
  rw [he, zye, hd, zzb, zye, hk, zye]
  show bd (op (some k)) _ = _
  rw [zzb, zye, hj, zzb, zye]
theorem insP_is {i a b : Nat} {f1 f2 : DS → M DV} {δ : DS} {xs ys : List D} (hi : δ[i]? = some (some (.own xs))) (h1 : f1 δ = rt (.d (.int (a : Int)))) (ha : a < 1000000) (h2 : f2 δ = rt (.d (.int (b : Int)))) (hb : b < 1000000) (hl : xs.length ≤ 1000000) (hy : insP xs a b = some ys) : fInsP i f1 f2 δ = rt (.nx (δ.set i (some (.own ys)))) := by
  have n1 : ∀ n : Nat, n < 1000000 → asNat (.d (.int (n : Int))) = some n := fun n hn => by
    unfold asNat
    simp only
    rw [if_pos ⟨by lia, by lia⟩, Int.toNat_natCast]
  unfold fInsP
  rw [hi]
  simp only
  rw [h1, zye, n1 a ha, zzb, zye, h2, zye, n1 b hb, zzb, zye, if_pos hl, hy, zzb, zye]
theorem gIx_own' {xs : List D} {i : Int} {x : D} (h : atI xs i = some x) : gIx (.own xs) (.d (.int i)) = rt (.d x) := by
  show bd (op (atI xs i)) _ = _
  rw [h]; rfl
theorem m_spoil {z : Str} (hz : z.length ≤ 90) (ho : PyData.strOk z = true) (cell : Int) : ∃ z', M__law_spoilt [.d (.str z), .d (.int cell)] = rt (.d (.str z')) ∧ PyData.strOk z' = true ∧ z'.length ≤ z.length + 6 := by
  have hlz : ∀ δ : DS, δ[0]? = some (some (.d (.str z))) → eCb gLenT (zzz (eVar 0) aNil) δ = rt (.d (.int (z.length : Int))) := fun δ h => by
    refine (cb_is (a1_is (x := .d (.str z)) ?_)).trans (if_pos (by lia))
    unfold eVar
    rw [h]; rfl
  obtain ⟨r1, e1, a1, b1⟩ := mixE (δ := sδ z cell none none none none none none) (fa := eVar 1) (fb := eC (.int 1)) (fc := e2 gPlus3 (eCb gLenT (zzz (eVar 0) aNil)) (eC (.int 1))) (cell := cell) (k := 1) (many := (z.length : Int) + 1) rfl rfl ((zkq (x := .d (.int (z.length : Int))) (y := .d (.int 1)) (hlz _ rfl) rfl).trans (gPlus3_int _ _)) (by lia)
  obtain ⟨at', rfl⟩ := Int.eq_ofNat_of_zero_le a1
  have hat : at' ≤ z.length := by lia
  obtain ⟨r2, e2', a2, b2⟩ := mixE (δ := sδ z cell (some (.d (.int (at' : Int)))) none none none none none) (fa := eVar 1) (fb := eC (.int 2)) (fc := eCb gLenT (zzz (eVar 2) aNil)) (cell := cell) (k := 2) (many := (signs.length : Int)) rfl rfl ((cb_is (a1_is (x := .d (.str signs)) rfl)).trans (lenT_is (by rw [signs_len]; decide))) (by rw [signs_len]; decide)
  rw [signs_len] at b2
  obtain ⟨sg, rfl⟩ := Int.eq_ofNat_of_zero_le a2
  obtain ⟨sf1, sf2⟩ := sign_fact sg (List.mem_range.mpr (by lia))
  obtain ⟨r3, e3, a3, b3⟩ := mixE (δ := sδ z cell (some (.d (.int (at' : Int)))) (some (.d (.str (sgn sg)))) none none none none) (fa := eVar 1) (fb := eC (.int 3)) (fc := eC (.int 6)) (cell := cell) (k := 3) (many := 6) rfl rfl rfl (by decide)
  obtain ⟨way, rfl⟩ := Int.eq_ofNat_of_zero_le a3
  have hsg1 : (sgn sg).length = 1 := rfl
  have go : ∀ r : M Out, _ = r → F__law_spoilt (dst ["text", "cell", "signs", "at", "sign", "way", "words", "spot", "odd"] [.d (.str z), .d (.int cell)]) = r := fun r hr => by
    unfold F__law_spoilt
    refine sqN (δ' := sδ z cell none none none none none none) rfl ?_
    refine sqN (δ' := sδ z cell (some (.d (.int (at' : Int)))) none none none none none) (setN e1 rfl rfl) ?_
    refine sqN (δ' := sδ z cell (some (.d (.int (at' : Int)))) (some (.d (.str (sgn sg)))) none none none none) (setN (x := .d (.str (sgn sg))) ((zkq (x := .d (.str signs)) (y := .d (.int (sg : Int))) rfl e2').trans ?_) rfl rfl) ?_
    · show bd (op (atI signs.cps.toList (sg : Int))) _ = _
      rw [sf1, zzb, zye, if_pos ⟨by rw [signs_len]; decide, sf2⟩]
      rfl
    refine sqN (δ' := sδ z cell (some (.d (.int (at' : Int)))) (some (.d (.str (sgn sg)))) (some (.d (.int (way : Int)))) none none none) (setN e3 rfl rfl) ?_
    exact hr
  have tw : (fun δ => bd (e2 gLtD (eVar 5) (eC (.int 3)) δ) tru) (sδ z cell (some (.d (.int (at' : Int)))) (some (.d (.str (sgn sg)))) (some (.d (.int (way : Int)))) none none none) = rt (decide ((way : Int) < 3)) := tst_is ((zkq (x := .d (.int (way : Int))) (y := .d (.int 3)) rfl rfl).trans (zzf _ _))
  unfold M__law_spoilt
  by_cases hw3 : way < 3
  · rw [decide_eq_true (by lia)] at tw
    have cH : eCutHT (eVar 0) (eVar 3) (sδ z cell (some (.d (.int (at' : Int)))) (some (.d (.str (sgn sg)))) (some (.d (.int (way : Int)))) none none none) = rt (.d (.str (Txt.slice z none (some (at' : Int))))) := cutHT_is rfl rfl (by lia) ho
    have cL : eCutLT (eVar 0) (eVar 3) (sδ z cell (some (.d (.int (at' : Int)))) (some (.d (.str (sgn sg)))) (some (.d (.int (way : Int)))) none none none) = rt (.d (.str (Txt.slice z (some (at' : Int)) none))) := cutLT_is rfl rfl (by lia) ho
    have cM : eCutLT (eVar 0) (e2 gPlus3 (eVar 3) (eC (.int 1))) (sδ z cell (some (.d (.int (at' : Int)))) (some (.d (.str (sgn sg)))) (some (.d (.int (way : Int)))) none none none) = rt (.d (.str (Txt.slice z (some ((at' : Int) + 1)) none))) := cutLT_is rfl ((zkq (x := .d (.int (at' : Int))) (y := .d (.int 1)) rfl rfl).trans (gPlus3_int _ _)) (by lia) ho
    have lH := cutH_len hat
    have lL := cutL_len hat
    have lM := cutL_len1 hat
    have oH := slice_ok (z := z) none (some (at' : Int)) ho
    have oL := slice_ok (z := z) (some (at' : Int)) none ho
    have oM := slice_ok (z := z) (some ((at' : Int) + 1)) none ho
    have cHs := (zkq (g := gAddS) (y := .d (.str (sgn sg))) cH (show eVar 4 (sδ z cell (some (.d (.int (at' : Int)))) (some (.d (.str (sgn sg)))) (some (.d (.int (way : Int)))) none none none) = _ from rfl)).trans (addS (by lia) oH sf2)
    have lHs := len_app (Txt.slice z none (some (at' : Int))) (sgn sg)
    have t0 := (zkq (g := gAddS) cHs cL).trans (addS (by lia) (strOk_app oH sf2) oL)
    have t1 := (zkq (g := gAddS) cH cM).trans (addS (by lia) oH oM)
    have t2 := (zkq (g := gAddS) cHs cM).trans (addS (by lia) (strOk_app oH sf2) oM)
    have hlst := l3_is t0 t1 t2
    have hw : way = 0 ∨ way = 1 ∨ way = 2 := by lia
    rcases hw with rfl | rfl | rfl
    · exact ⟨_, mir_is (x := .d (.str _)) (go _ (sq_rt (ifY tw (ret_is ((zkq (y := .d (.int 0)) hlst rfl).trans (gIx_new rfl)))))), strOk_app (strOk_app oH sf2) oL, by rw [len_app, len_app]; lia⟩
    · exact ⟨_, mir_is (x := .d (.str _)) (go _ (sq_rt (ifY tw (ret_is ((zkq (y := .d (.int 1)) hlst rfl).trans (gIx_new rfl)))))), strOk_app oH oM, by rw [len_app]; lia⟩
    · exact ⟨_, mir_is (x := .d (.str _)) (go _ (sq_rt (ifY tw (ret_is ((zkq (y := .d (.int 2)) hlst rfl).trans (gIx_new rfl)))))), strOk_app (strOk_app oH sf2) oM, by rw [len_app, len_app]; lia⟩
  · rw [decide_eq_false (by lia)] at tw
    have hlw := sp_len z
    have hne := split_ne z " "
    have hwt := sp_wt z
    have hwo := sp_ok ho
    have hok : splitOk z " " = true := splitOk_of (by lia) rfl (by lia) hwo
    generalize hW : Txt.split z " " = W at *
    have hpos : 0 < W.length := List.length_pos_iff.mpr hne
    obtain ⟨r4, e4, a4, b4⟩ := mixE (δ := sδ z cell (some (.d (.int (at' : Int)))) (some (.d (.str (sgn sg)))) (some (.d (.int (way : Int)))) (some (.own (W.map PyData.str))) none none) (fa := eVar 1) (fb := eC (.int 4)) (fc := eCb gLen (zzz (eVar 6) aNil)) (cell := cell) (k := 4) (many := ((W.map PyData.str).length : Int)) rfl rfl ((cb_is (a1_is (x := .own (W.map PyData.str)) rfl)).trans rfl) (by rw [List.length_map]; lia)
    obtain ⟨spot, rfl⟩ := Int.eq_ofNat_of_zero_le a4
    rw [List.length_map] at b4
    have hsl : spot < W.length := by lia
    obtain ⟨r5, e5, a5, b5⟩ := mixE (δ := sδ z cell (some (.d (.int (at' : Int)))) (some (.d (.str (sgn sg)))) (some (.d (.int (way : Int)))) (some (.own (W.map PyData.str))) (some (.d (.int (spot : Int)))) (some (.own (oddL.map PyData.str)))) (fa := eVar 1) (fb := eC (.int 5)) (fc := eC (.int 20)) (cell := cell) (k := 5) (many := 20) rfl rfl rfl (by decide)
    obtain ⟨od, rfl⟩ := Int.eq_ofNat_of_zero_le a5
    obtain ⟨r6, e6, a6, b6⟩ := mixE (δ := sδ z cell (some (.d (.int (at' : Int)))) (some (.d (.str (sgn sg)))) (some (.d (.int (way : Int)))) (some (.own (W.map PyData.str))) (some (.d (.int (spot : Int)))) (some (.own (oddL.map PyData.str)))) (fa := eVar 1) (fb := eC (.int 6)) (fc := eCb gLen (zzz (eVar 6) aNil)) (cell := cell) (k := 6) (many := ((W.map PyData.str).length : Int)) rfl rfl ((cb_is (a1_is (x := .own (W.map PyData.str)) rfl)).trans rfl) (by rw [List.length_map]; lia)
    obtain ⟨to, rfl⟩ := Int.eq_ofNat_of_zero_le a6
    rw [List.length_map] at b6
    have hod : oddL.getD od "" ∈ oddL := by
      have hlt : od < oddL.length := by rw [odd_len]; lia
      rw [List.getD_eq_getElem?_getD, List.getElem?_eq_getElem hlt]
      exact List.getElem_mem _
    obtain ⟨of1, of2⟩ := odd_fact _ hod
    have hodd : e2 gIx (eVar 8) (eCb (zxg 3 (zzw)) (zzz (eVar 1) (zzz (eC (.int 5)) (zzz (eC (.int 20)) aNil)))) (sδ z cell (some (.d (.int (at' : Int)))) (some (.d (.str (sgn sg)))) (some (.d (.int (way : Int)))) (some (.own (W.map PyData.str))) (some (.d (.int (spot : Int)))) (some (.own (oddL.map PyData.str)))) = rt (.d (.str (oddL.getD od ""))) := (zkq (x := .own (oddL.map PyData.str)) (y := .d (.int (od : Int))) rfl e5).trans (gIx_own' (atI_map' (f := PyData.str) (as := oddL) (k := od) (by rw [odd_len]; lia) ""))
    have go2 : ∀ r : M Out, _ = r → F__law_spoilt (dst ["text", "cell", "signs", "at", "sign", "way", "words", "spot", "odd"] [.d (.str z), .d (.int cell)]) = r := fun r hr => by
      refine go r ?_
      refine sqN (δ' := sδ z cell (some (.d (.int (at' : Int)))) (some (.d (.str (sgn sg)))) (some (.d (.int (way : Int)))) none none none) (ifF tw rfl) ?_
      refine sqN (δ' := sδ z cell (some (.d (.int (at' : Int)))) (some (.d (.str (sgn sg)))) (some (.d (.int (way : Int)))) (some (.own (W.map PyData.str))) none none) (setN (x := .new (W.map PyData.str)) ?_ rfl rfl) ?_
      · unfold eSplit
        show gSplit z (.d (.str " ")) = _
        unfold gSplit
        simp only
        rw [if_pos hok, hW]
      refine sqN (δ' := sδ z cell (some (.d (.int (at' : Int)))) (some (.d (.str (sgn sg)))) (some (.d (.int (way : Int)))) (some (.own (W.map PyData.str))) (some (.d (.int (spot : Int)))) none) (setN e4 rfl rfl) ?_
      refine sqN (δ' := sδ z cell (some (.d (.int (at' : Int)))) (some (.d (.str (sgn sg)))) (some (.d (.int (way : Int)))) (some (.own (W.map PyData.str))) (some (.d (.int (spot : Int)))) (some (.own (odd17.map PyData.str)))) (setN (x := .new (odd17.map PyData.str)) rfl rfl rfl) ?_
      refine sqN (δ' := sδ z cell (some (.d (.int (at' : Int)))) (some (.d (.str (sgn sg)))) (some (.d (.int (way : Int)))) (some (.own (W.map PyData.str))) (some (.d (.int (spot : Int)))) (some (.own (oddL.map PyData.str)))) (setN (x := .new (oddL.map PyData.str)) ((zkq (x := .own (odd17.map PyData.str)) (y := .new (odd3.map PyData.str)) rfl rfl).trans ((cat3 (xs := odd17.map PyData.str) (ys := odd3.map PyData.str) rfl rfl rfl (by decide)).trans (by unfold oddL; rw [List.map_append]))) rfl rfl) ?_
      exact hr
    have tk : ∀ (k : Int) (x6 : Option DV), (fun δ => bd (e2 (gEq false) (eVar 5) (eC (.int k)) δ) tru) (sδ z cell (some (.d (.int (at' : Int)))) (some (.d (.str (sgn sg)))) (some (.d (.int (way : Int)))) x6 (some (.d (.int (spot : Int)))) (some (.own (oddL.map PyData.str)))) = rt ((way : Int) == k) := fun k x6 => tst_is ((zkq (x := .d (.int (way : Int))) (y := .d (.int k)) rfl rfl).trans (gEq_int _ _))
    have hw : way = 3 ∨ way = 4 ∨ way = 5 := by lia
    rcases hw with rfl | rfl | rfl
    · obtain ⟨z', ez, oz, lz⟩ := sp_end (z := z) (cell := cell) (x3 := some (.d (.int (at' : Int)))) (x4 := some (.d (.str (sgn sg)))) (x5 := some (.d (.int 3))) (x7 := some (.d (.int (spot : Int)))) (x8 := some (.own (oddL.map PyData.str))) (V := W.set spot (oddL.getD od "")) (N := z.length + 6) (by intro h; rw [List.set_eq_nil_iff] at h; exact hne h) (by have := wt_set (oddL.getD od "") W spot; lia) (by lia) (fun w hw' => by
        rcases List.mem_or_eq_of_mem_set hw' with h | h
        · exact hwo w h
        · rw [h]; exact of1)
      refine ⟨z', mir_is (x := .d (.str z')) (go2 _ ?_), oz, lz⟩
      refine sqN (ifY (tk 3 _) (put_is (xs := W.map PyData.str) (j := spot) rfl hodd rfl rfl (by unfold ixN; rw [if_pos (by lia), if_pos (by rw [List.length_map]; lia), Int.toNat_natCast]))) ?_
      rw [← List.map_set]
      refine sqN (ifF (tk 4 _) rfl) (sqN (ifF (tk 5 _) rfl) ez)
    · obtain ⟨z', ez, oz, lz⟩ := sp_end (z := z) (cell := cell) (x3 := some (.d (.int (at' : Int)))) (x4 := some (.d (.str (sgn sg)))) (x5 := some (.d (.int 4))) (x7 := some (.d (.int (spot : Int)))) (x8 := some (.own (oddL.map PyData.str))) (V := W ++ [oddL.getD od ""]) (N := z.length + 6) (by simp) (by rw [wt_app, wt_one]; lia) (by lia) (fun w hw' => by
        rcases List.mem_append.mp hw' with h | h
        · exact hwo w h
        · rw [List.mem_singleton.mp h]; exact of1)
      refine ⟨z', mir_is (x := .d (.str z')) (go2 _ ?_), oz, lz⟩
      refine sqN (ifF (tk 3 _) rfl) (sqN (ifY (tk 4 _) (app_is (xs := W.map PyData.str) rfl hodd rfl (by rw [List.length_map]; lia))) ?_)
      refine sqN (ifF (tk 5 _) rfl) ?_
      rw [List.map_append] at ez
      exact ez
    · obtain ⟨w, hwk⟩ : ∃ w, W[spot]? = some w := ⟨_, List.getElem?_eq_getElem hsl⟩
      have hwe := wt_erase W spot w hwk
      have hwi := wt_ins (W.eraseIdx spot) w (min to (W.eraseIdx spot).length)
      obtain ⟨z', ez, oz, lz⟩ := sp_end (z := z) (cell := cell) (x3 := some (.d (.int (at' : Int)))) (x4 := some (.d (.str (sgn sg)))) (x5 := some (.d (.int 5))) (x7 := some (.d (.int (spot : Int)))) (x8 := some (.own (oddL.map PyData.str))) (V := (W.eraseIdx spot).take (min to (W.eraseIdx spot).length) ++ w :: (W.eraseIdx spot).drop (min to (W.eraseIdx spot).length)) (N := z.length + 6) (by simp) (by lia) (by lia) (fun v hv => by
        have hin : ∀ v ∈ W.eraseIdx spot, PyData.strOk v = true := fun v hv => hwo v (List.mem_of_mem_eraseIdx hv)
        rcases List.mem_append.mp hv with h | h
        · exact hin v (List.mem_of_mem_take h)
        · rcases List.mem_cons.mp h with h | h
          · rw [h]; exact hwo w (List.mem_of_getElem? hwk)
          · exact hin v (List.mem_of_mem_drop h))
      refine ⟨z', mir_is (x := .d (.str z')) (go2 _ ?_), oz, lz⟩
      refine sqN (ifF (tk 3 _) rfl) (sqN (ifF (tk 4 _) rfl) (sqN (ifY (tk 5 _) (insP_is (xs := W.map PyData.str) (a := to) (b := spot) (ys := ((W.eraseIdx spot).take (min to (W.eraseIdx spot).length) ++ w :: (W.eraseIdx spot).drop (min to (W.eraseIdx spot).length)).map PyData.str) rfl e6 (by lia) rfl (by lia) (by rw [List.length_map]; lia) ?_)) ez))
      unfold insP
      rw [List.getElem?_map, hwk]
      simp only [Option.map_some]
      rw [eraseIdx_map', List.length_map, List.map_append, List.map_cons, List.map_take, List.map_drop]
end K10
set_option Elab.async false
set_option linter.all false
set_option maxRecDepth 100000
set_option maxHeartbeats 1000000
set_option autoImplicit false
namespace K10
open PySem PySem.Spec L2 L3 LW
noncomputable def HandP (m c : Nat) (ws : List (Nat × Nat)) : Prop := (∀ p ∈ ws, 1 ≤ p.1 ∧ p.1 ≤ m ∧ p.2 < c) ∧ ws.length ≤ 12
theorem hand_nat {m c : Nat} : ∀ {qs : List (Int × Int)}, (∀ p ∈ qs, tileOk m c p = true) → ∃ ws : List (Nat × Nat), ws.map toI = qs ∧ ∀ p ∈ ws, 1 ≤ p.1 ∧ p.1 ≤ m ∧ p.2 < c
  | [], _ => ⟨[], rfl, by simp⟩
  | q :: qs, h => by
    obtain ⟨ws, e, hw⟩ := hand_nat (qs := qs) fun p hp => h p (List.mem_cons_of_mem _ hp)
    have h1 := h q List.mem_cons_self
    unfold tileOk at h1
    simp at h1
    refine ⟨(q.1.toNat, q.2.toNat) :: ws, ?_, fun p hp => ?_⟩
    · rw [List.map_cons, e]
      congr 1
      refine Prod.ext ?_ ?_
      · show ((q.1.toNat : Nat) : Int) = q.1; lia
      · show ((q.2.toNat : Nat) : Int) = q.2; lia
    · rcases List.mem_cons.mp hp with z | z
      · rw [z]
        exact ⟨by show 1 ≤ q.1.toNat; lia, by show q.1.toNat ≤ m; lia, by show q.2.toNat < c; lia⟩
      · exact hw p z
theorem drawn (K : PySem.W.Frag) (ns : List Int) {m c : Nat} (hm : 1 ≤ m) (hm' : m ≤ 13) (hc : 1 ≤ c) (hc' : c ≤ 4) : ∃ ws : List (Nat × Nat), zje K [.scr K ns, .d (.int 2), .d (.int (m : Int)), .d (.int (c : Int)), .d (.int 12)] = rt (.new (ws.map prN)) ∧ HandP m c ws := by
  obtain ⟨qs, e, hl, ht, hcn, ho⟩ := m_hand_by' K ns m c 2 12 (by decide) (by decide) (by decide) (by lia) (by lia) (by lia) (by lia)
  obtain ⟨ws, e2, hw⟩ := hand_nat ht
  refine ⟨ws, by rw [e, ← e2, prs_toI], hw, ?_⟩
  rw [← e2, List.length_map] at hl
  lia
theorem comp2 {fe : DS → M DV} {g : Nat × Nat → D} : ∀ {ws : List (Nat × Nat)}, (∀ p ∈ ws, fe [some (.d (.int (p.1 : Int))), some (.d (.int (p.2 : Int)))] = rt (.d (g p))) → compD (sTup 2 (sCons (zjq 0) (sCons (zjq 1) sNil))) bYes fe [none, none] (ws.map prN) = some (ws.map g)
  | [], _ => rfl
  | a :: r, h => by
    have h1 := h a List.mem_cons_self
    have ih := comp2 (ws := r) fun e he => h e (List.mem_cons_of_mem _ he)
    rw [List.map_cons, List.map_cons]
    unfold compD
    have hs : sTup 2 (sCons (zjq 0) (sCons (zjq 1) sNil)) (prN a) [none, none] = some [some (.d (.int (a.1 : Int))), some (.d (.int (a.2 : Int)))] := rfl
    rw [hs]
    simp only [bYes, rt]
    rw [h1, ih]
    rfl
theorem eqv_hand (ws : List (Nat × Nat)) (j : Nat) {x y : DV} (hx : asQ x = some (.tuple [.list (ws.map prN), .int (j : Int)])) (hy : asQ y = some (.tuple [.list (ws.map prN), .int (j : Int)])) : gEq true x y = rt (.d (.bool false)) := by
  have hd := depth_prs (ws.map toI)
  rw [prs_toI] at hd
  have he := eqv_prs (ws.map toI) (ws.map toI)
  rw [prs_toI] at he
  unfold gEq
  rw [hx, hy]
  simp only
  rw [if_pos (by
    rw [PyData.depth, PyData.depthAll, PyData.depthAll, PyData.depthAll, PyData.depth, PyData.depth] <;> first | lia | (intros; contradiction))]
  have : PyData.eqv (.tuple [.list (ws.map prN), .int (j : Int)]) (.tuple [.list (ws.map prN), .int (j : Int)]) = true := by
    show PyData.eqvAll [.list (ws.map prN), .int (j : Int)] [.list (ws.map prN), .int (j : Int)] = true
    rw [PyData.eqvAll, PyData.eqvAll, PyData.eqvAll, eqv_ii]
    show (PyData.eqvAll (ws.map prN) (ws.map prN) && _) = true
    rw [he]
    simp
  rw [this]
  rfl
theorem text0 {m c j : Nat} {ws : List (Nat × Nat)} (hm : m ≤ 13) (hc : c ≤ 4) (hw : ∀ p ∈ ws, 1 ≤ p.1 ∧ p.1 ≤ m ∧ p.2 < c) (hl : ws.length ≤ 12) (hj : j ≤ 2) : gJoin " " (.new ((words ws j).map PyData.str)) = rt (.d (.str (Txt.join " " (words ws j)))) ∧ PyData.strOk (Txt.join " " (words ws j)) = true ∧ (Txt.join " " (words ws j)).length ≤ 56 := by
  have wf := words_fact (j := j) hm hc hw
  have wl : (words ws j).length = ws.length + j := words_len
  have ok : PyData.strOk (Txt.join " " (words ws j)) = true := by rw [sp_is]; exact join_ok (by decide) fun w hw' => (wf w hw').2.2
  refine ⟨?_, ok, ?_⟩
  · unfold gJoin
    simp only [asL, zzb, zye, strsL_map]
    rw [if_pos ⟨by rw [sp_is]; exact joinOk (B := 3) (fun w hw' => (wf w hw').2.1) (by lia), ok⟩]
  · by_cases he : words ws j = []
    · rw [he]; decide +kernel
    · have h1 := join_len he
      have h2 : ∀ V : List Str, (∀ w ∈ V, w.length ≤ 3) → wt (chs V) ≤ 4 * V.length := by
        intro V
        induction V with
        | nil => intro _; decide
        | cons a V ih =>
          intro h
          have h3 := ih fun w hw => h w (List.mem_cons_of_mem _ hw)
          have h4 := h a List.mem_cons_self
          have h5 : wt (chs (a :: V)) = wt (chs [a]) + wt (chs V) := wt_app [a] V
          rw [h5, wt_one, List.length_cons]
          lia
      have h3 := h2 _ fun w hw' => (wf w hw').2.1
      lia
noncomputable def lδ (K : PySem.W.Frag) (ns : List Int) (C : Addr) (m c : Nat) (x4 : DV) (z : Str) (x6 x7 x8 x9 : Option DV) : DS := [some (.scr K ns), some (.d (.int (m : Int))), some (.d (.int (c : Int))), some (hs C m c), some x4, some (.d (.str z)), x6, x7, x8, x9]
theorem math (K : PySem.W.Frag) (C E_BadHand E_BadHouse E_BadNote : Addr) (ns : List Int) (_ : ns.length ≤ 63) : M_law K C E_BadHand E_BadHouse E_BadNote [.scr K ns] = rt (.d (.bool true)) := by
  obtain ⟨m', c', eh, g1, g2, g3, g4⟩ := m_house K ns
  obtain ⟨m, rfl⟩ := Int.eq_ofNat_of_zero_le (show 0 ≤ m' by lia)
  obtain ⟨c, rfl⟩ := Int.eq_ofNat_of_zero_le (show 0 ≤ c' by lia)
  obtain ⟨j, hj⟩ := Int.eq_ofNat_of_zero_le (Int.emod_nonneg (cellAt ns 1) (show (3 : Int) ≠ 0 by decide))
  have hj2 : j ≤ 2 := by have := Int.emod_lt_of_pos (cellAt ns 1) (show (0 : Int) < 3 by decide); lia
  obtain ⟨n, hn⟩ := Int.eq_ofNat_of_zero_le (Int.emod_nonneg (cellAt ns 20) (show (2 : Int) ≠ 0 by decide))
  have hn2 : n ≤ 1 := by have := Int.emod_lt_of_pos (cellAt ns 20) (show (0 : Int) < 2 by decide); lia
  have hm : m ≤ 13 := by lia
  have hc : c ≤ 4 := by lia
  obtain ⟨ws, eh0, hw, hl⟩ := drawn K ns (m := m) (c := c) (by lia) hm (by lia) hc
  obtain ⟨t1, t2, t3⟩ := text0 hm hc hw hl hj2
  unfold M_law
  refine mir_is (x := .d (.bool true)) ?_
  unfold F_law
  refine sqN (δ' := [some (.scr K ns), some (.d (.int (m : Int))), some (.d (.int (c : Int))), none, none, none, none, none, none, none]) (tg_is (x := .d (.tuple [.int (m : Int), .int (c : Int)])) (call_is (a1_is rfl) rfl rfl eh) rfl rfl) ?_
  refine sqN (δ' := [some (.scr K ns), some (.d (.int (m : Int))), some (.d (.int (c : Int))), some (hs C m c), none, none, none, none, none, none]) (setN (mkE (m := (m : Int)) (c := (c : Int)) rfl rfl g1 g2 g3 g4) rfl rfl) ?_
  refine sqN (δ' := [some (.scr K ns), some (.d (.int (m : Int))), some (.d (.int (c : Int))), some (hs C m c), some (.own (ws.map fun p => PyData.str (zjb p))), none, none, none, none, none]) (setN (x := .new (ws.map fun p => PyData.str (zjb p))) ?_ rfl rfl) ?_
  · refine eComp_is (iLn_is (call_is (a5x (x := .scr K ns) (y := .d (.int 2)) (z := .d (.int (m : Int))) (u := .d (.int (c : Int))) (v := .d (.int 12)) rfl rfl rfl rfl rfl) rfl rfl eh0)) (by rw [List.length_map]; lia) (comp2 (g := fun p => PyData.str (zjb p)) fun p hp => ?_)
    obtain ⟨h1, h2, h3⟩ := hw p hp
    exact wordE (n := p.1) (k := p.2) (by lia) (by lia) rfl rfl
  refine sqN (δ' := lδ K ns C m c (.own (ws.map fun p => PyData.str (zjb p))) (Txt.join " " (words ws j)) none none none none) (setN (x := .d (.str (Txt.join " " (words ws j)))) ?_ rfl rfl) ?_
  · unfold eJoin
    show bd (rt (DV.d (.str " "))) _ = _
    rw [zye]
    show bd (rt (" " : Str)) _ = _
    rw [zye]
    have : e2 gPlus3 (eVar 4) (e2 gTimes (eLst (zzz (eC (.str "*")) aNil)) (e2 gMod (eCb (zxg 2 (zzy K)) (zzz (eVar 0) (zzz (eC (.int 1)) aNil))) (eC (.int 3)))) [some (.scr K ns), some (.d (.int (m : Int))), some (.d (.int (c : Int))), some (hs C m c), some (.own (ws.map fun p => PyData.str (zjb p))), none, none, none, none, none] = rt (.new ((words ws j).map PyData.str)) := by
      refine (zkq (x := .own (ws.map fun p => PyData.str (zjb p))) (y := .new (List.replicate j (.str "*"))) rfl ((zkq (x := .new [.str "*"]) (y := .d (.int (j : Int))) rfl ((zkq (x := .d (.int (cellAt ns 1))) (y := .d (.int 3)) (cellE (K := K) (ns := ns) rfl rfl (by decide)) rfl).trans (by rw [gMod_int (by decide), hj]))).trans (gRep_star hj2))).trans ?_
      rw [cat3 (xs := ws.map fun p => PyData.str (zjb p)) (ys := List.replicate j (.str "*")) rfl rfl rfl (by simp; lia)]
      unfold words
      rw [List.map_append, List.map_map, List.map_replicate]
      rfl
    rw [this, zye]
    exact t1
  obtain ⟨δ1, e1, z, x6, hz, hz2, rfl⟩ := loop_I (f := fun (k : Nat) => PyData.int (k : Int)) (i := 6) (N := 2) (all := List.range (1 + n)) (B := fSet 5 (eCb (zxg 2 (M__law_spoilt)) (zzz (eVar 5) (zzz (eCb (zxg 2 (zzy K)) (zzz (eVar 0) (zzz (e2 gPlus3 (eC (.int 21)) (eVar 6)) aNil))) aNil)))) (fun pre δ => ∃ z x6, PyData.strOk z = true ∧ z.length ≤ 56 + 6 * pre.length ∧ δ = lδ K ns C m c (.own (ws.map fun p => PyData.str (zjb p))) z x6 none none none) (fun pre k δ hk hpre hI => by
    obtain ⟨z, x6, h1, h2, rfl⟩ := hI
    obtain ⟨z', e', h1', h2'⟩ := m_spoil (z := z) (by lia) h1 (cellAt ns (21 + (k : Int)))
    refine ⟨lδ K ns C m c (.own (ws.map fun p => PyData.str (zjb p))) z' (some (.d (.int (k : Int)))) none none none, ?_, z', _, h1', by rw [List.length_append, List.length_singleton]; lia, rfl⟩
    exact setN (x := .d (.str z')) (call_is (a2_is (x := .d (.str z)) (y := .d (.int (cellAt ns (21 + (k : Int))))) rfl (cellE (K := K) (ns := ns) rfl ((zkq (x := .d (.int 21)) (y := .d (.int (k : Int))) rfl rfl).trans (gPlus3_int _ _)) (by lia))) rfl rfl e') rfl rfl) (List.range (1 + n)) [] (lδ K ns C m c (.own (ws.map fun p => PyData.str (zjb p))) (Txt.join " " (words ws j)) none none none none) (fun a ha => ha) (by simp; lia) ⟨_, _, t2, t3, rfl⟩
  rw [List.nil_append, List.length_range] at hz2
  refine sqN (δ' := lδ K ns C m c (.own (ws.map fun p => PyData.str (zjb p))) z x6 none none none) (for_is (xs := (List.range (1 + n)).map fun (k : Nat) => PyData.int (k : Int)) ?_ e1) ?_
  · refine (iR1_is (j := 1 + (n : Int)) (a1_is ((zkq (x := .d (.int 1)) (y := .d (.int (n : Int))) rfl ((zkq (x := .d (.int (cellAt ns 20))) (y := .d (.int 2)) (cellE (K := K) (ns := ns) rfl rfl (by decide)) rfl).trans (by rw [gMod_int (by decide), hn]))).trans (gPlus3_int _ _))) (by lia) (by lia)).trans ?_
    rw [run0, show (1 + (n : Int)).toNat = 1 + n by lia]
  refine sqN (δ' := lδ K ns C m c (.own (ws.map fun p => PyData.str (zjb p))) z x6 (some (.d (dueV (rdR m c z)))) none none) (setN (x := .d (dueV (rdR m c z))) (call_is (a3_is (x := .d (.str z)) (y := .d (.int (m : Int))) (z := .d (.int (c : Int))) rfl rfl rfl) rfl rfl (m_dueG hm hc (by lia) hz)) rfl rfl) ?_
  refine forN (I := fun δ => ∃ x8 x9, δ = lδ K ns C m c (.own (ws.map fun p => PyData.str (zjb p))) z x6 (some (.d (dueV (rdR m c z)))) x8 x9) (xs := runI 0 2) ((iR1_is (j := 2) (a1_is rfl) (by decide) (by decide)).trans rfl) ⟨none, none, rfl⟩ (fun x hx δ hI => ?_) fun δ hI => ret_is rfl
  obtain ⟨x8, x9, rfl⟩ := hI
  have hmt := m_metG C E_BadHand E_BadNote hm hc (z := z) (by lia) hz
  cases hq : rdR m c z with
  | none =>
    rw [hq] at hmt
    refine ⟨lδ K ns C m c (.own (ws.map fun p => PyData.str (zjb p))) z x6 (some (.d .none)) (some (.d x)) (some (.d (.bool true))), ?_, _, _, rfl⟩
    refine sqN (δ' := lδ K ns C m c (.own (ws.map fun p => PyData.str (zjb p))) z x6 (some (.d .none)) (some (.d x)) (some (.d (.bool true)))) (setN (x := .d (.bool true)) (call_is (a2_is (x := hs C m c) (y := .d (.str z)) rfl rfl) rfl rfl hmt) rfl rfl) ?_
    exact ifY rfl (ifF rfl rfl)
  | some p =>
    obtain ⟨vs, i⟩ := p
    rw [hq] at hmt
    refine ⟨lδ K ns C m c (.own (ws.map fun p => PyData.str (zjb p))) z x6 (some (.d (.tuple [.list (vs.map prN), .int (i : Int)]))) (some (.d x)) (some (.tpo [] (vs.map prN ++ [pr (1, 0)]) [.int (i : Int)])), ?_, _, _, rfl⟩
    refine sqN (δ' := lδ K ns C m c (.own (ws.map fun p => PyData.str (zjb p))) z x6 (some (.d (.tuple [.list (vs.map prN), .int (i : Int)]))) (some (.d x)) (some (.tpo [] (vs.map prN) [.int (i : Int)]))) (setN (x := .nwt [] (vs.map prN) [.int (i : Int)]) (call_is (a2_is (x := hs C m c) (y := .d (.str z)) rfl rfl) rfl rfl hmt) rfl rfl) ?_
    refine ifF rfl (ifF ?_ ?_)
    · change bOr _ _ (lδ K ns C m c (.own (ws.map fun p => PyData.str (zjb p))) z x6 (some (.d (.tuple [.list (vs.map prN), .int (i : Int)]))) (some (.d x)) (some (.d (.tuple [.list (vs.map prN), .int (i : Int)])))) = _
      refine or_no (not_is' (tst_is (eIs_is (x := .d (.tuple [.list (vs.map prN), .int (i : Int)])) rfl rfl rfl)) rfl) (or_no (tst_is ((zkq (x := .d (.tuple [.list (vs.map prN), .int (i : Int)])) (y := .d (.tuple [.list (vs.map prN), .int (i : Int)])) rfl rfl).trans (eqv_hand vs i rfl rfl))) ?_)
      exact not_is' (tst_is (call_is (a1_is ((zkq (x := .d (.tuple [.list (vs.map prN), .int (i : Int)])) (y := .d (.int 1)) rfl rfl).trans (gIx_tup rfl))) rfl rfl (show M__law_whole [.d (.int (i : Int))] = rt (.d (.bool true)) from rfl))) rfl
    · have hlv : vs.length ≤ 12 := by
        have h0 : rdR m c z = some (vs, i) := hq
        unfold rdR at h0
        split at h0
        · rename_i hh
          obtain ⟨hh1, _⟩ := hh
          have := (hand_len hh1).1
          cases h0
          rw [List.length_map] at this
          exact this
        · cases h0
      unfold fAppT
      show (if ([] : List D).length = 0 then bd (rt (DV.d (pr (1, 0)))) _ else none) = _
      rw [if_pos (show ([] : List D).length = 0 from rfl), zye]
      show (if (vs.map prN).length < 1000000 then _ else none) = _
      rw [if_pos (by rw [List.length_map]; lia)]
      rfl
end K10
set_option Elab.async false
set_option linter.all false
set_option maxRecDepth 100000
set_option maxHeartbeats 1000000
set_option autoImplicit false
namespace K10
open PySem PySem.Spec L2 L3 LW
open PyProof.Rows hiding St
theorem len1 {us : List Value} (h : us.length = 1) : ∃ a0, us = [a0] := match us, h with | [a0], _ => ⟨a0, rfl⟩
theorem len2 {us : List Value} (h : us.length = 2) : ∃ a0 a1, us = [a0, a1] := match us, h with | [a0, a1], _ => ⟨a0, a1, rfl⟩
theorem len3 {us : List Value} (h : us.length = 3) : ∃ a0 a1 a2, us = [a0, a1, a2] := match us, h with | [a0, a1, a2], _ => ⟨a0, a1, a2, rfl⟩
theorem len5 {us : List Value} (h : us.length = 5) : ∃ a0 a1 a2 a3 a4, us = [a0, a1, a2, a3, a4] := match us, h with | [a0, a1, a2, a3, a4], _ => ⟨a0, a1, a2, a3, a4, rfl⟩
noncomputable abbrev sInit : Stmt := inClass (top 13) 0
theorem scI : FnScope ["self", "most", "colours"] ["self", "most", "colours"] (zzj sInit) := ⟨rfl, rfl, rfl, by decide +kernel, rfl, by decide +kernel, by decide +kernel⟩
section
variable {P : Program} {w : World} {K : PySem.W.Frag} {mg : Str → Option Value} {base : Heap}
theorem rs_init {H : Hp} {p : V} {m c : Int} : RS [] [] H [some p, some (.int m), some (.int c)] [none, some (.d (.int m)), some (.d (.int c))] := by
  refine ⟨rfl, fun a ha => (nomatch ha), fun a ha => (nomatch ha), fun i x h => ?_, fun i j x y v w a h1 h2 h3 h4 o1 o2 => ?_⟩
  · match i with
    | 0 => cases h
    | 1 => cases h; exact ⟨_, rfl, fun _ => nofun, .int m⟩
    | 2 => cases h; exact ⟨_, rfl, fun _ => nofun, .int c⟩
    | i + 3 => simp at h
  · match i with
    | 0 => cases h1
    | 1 => cases h1; exact o1.elim
    | 2 => cases h1; exact o1.elim
    | i + 3 => simp at h1
theorem ok_init {f C CB : Addr} {fd : FuncData} (Fu : Fun K "__init__" "House.__init__" sInit f fd) (T : Tx K mg C) (O : Xc K mg "BadHouse" CB) : FnOk P w K mg base (CXR P w) 1 f fd ["self", "most", "colours"] (spI C CB good "most" "colours") := by
  obtain ⟨oc, od, kV, doc, pm, an, cdv, ct, osl, rfl, lk, hcd⟩ := Fu.ex
  refine fn_of (k := 0) lk hcd scI (fun vs H Q E h => ?_) fun A outer s H vs Q E hr h => ?_
  · obtain ⟨p, dx, m, c, rfl, _⟩ := h
    rfl
  · obtain ⟨p, dx, m, c, rfl, hp, k⟩ := h
    have hu := hu64 hr
    have mk : Makes (cxOf (CXR P w) P w K mg base ["self", "most", "colours"] "House.__init__" (zzj sInit) f cdv A outer s H E) E := ⟨hr.hd, fun pins σ H1 s1 h1 e cls vs I hm hE => xe_made I hm hE⟩
    refine ⟨_, pss_cons (ps_if (pb_not (pb_chain (E := E0) (ov_leX hu) (ov_leX hu) (px_gi T.i_LEAST_NUMBERS) (zzx 1 (pv 1)) (px_gi T.i_MOST_NUMBERS))) (pss_one (ps_raise mk O)) pss_nil)
      (pss_cons (ps_if (pb_not (pb_chain (E := E0) (ov_leX hu) (ov_leX hu) (px_gi T.i_LEAST_COLOURS) (zzx 2 (pv 2)) (px_gi T.i_MOST_COLOURS))) (pss_one (ps_raise mk O)) pss_nil)
      (pss_cons (ps_fld (pv 0) (pv 1) rfl) (pss_one (ps_fld (pv 0) (pv 2) rfl)))), ?_⟩
    refine ⟨[], [], _, .ok (!(decide (3 ≤ m) && decide (m ≤ 13))), rs_init, ?_, fun H1 s1 => ?_⟩
    · unfold bNot eCh
      by_cases h3 : 3 ≤ m <;> by_cases h13 : m ≤ 13 <;> simp [eC, eVar, rt, bd, op, tru, h3, h13]
    by_cases g1 : (decide (3 ≤ m) && decide (m ≤ 13)) = true
    · rw [g1]
      refine iteF ?_
      refine ⟨[], [], _, .ok (!(decide (1 ≤ c) && decide (c ≤ 4))), rs_init, ?_, fun H2 s2 => ?_⟩
      · unfold bNot eCh
        by_cases h3 : 1 ≤ c <;> by_cases h13 : c ≤ 4 <;> simp [eC, eVar, rt, bd, op, tru, h3, h13]
      have kk := k H2 (s1.trans s2)
      by_cases g2 : (decide (1 ≤ c) && decide (c ≤ 4)) = true
      · rw [g2]
        refine iteF ?_
        rw [if_pos (by unfold good; rw [g1, g2]; rfl)] at kk
        refine ⟨_, rfl, _, rfl, p, C, dx, [], rfl, s2 _ _ (s1 _ _ hp), T.cl, T.n_most, by decide, ?_⟩
        exact ⟨_, rfl, _, rfl, p, C, dx, _, rfl, zjj, T.cl, T.n_colours, by show 1 < 1000; decide, kk⟩
      · have g2' : (decide (1 ≤ c) && decide (c ≤ 4)) = false := by simpa using g2
        rw [g2']
        refine iteT ?_
        rw [if_neg (by unfold good; rw [g1, g2']; simp)] at kk
        exact kk
    · have g1' : (decide (3 ≤ m) && decide (m ≤ 13)) = false := by simpa using g1
      rw [g1']
      refine iteT ?_
      have kk := k H1 s1
      rw [if_neg (by unfold good; rw [g1']; simp)] at kk
      exact kk
end
theorem df_mk {K : PySem.W.Frag} {h : Heap} {mg : Str → Option Value} {x : Str} {st : Stmt} {ps : List Str} {f : Addr} {oc : Value} {od an : Option Addr} {osl : Array (Option Value)} {kV doc pm cdv ct : Value} (X : K.In h) (G : h.Ns mainGlobals mg) (a : PySem.W.nsIn K mainGlobals x = some (some (.ref f)))
    (l : K.lookup f = some ⟨oc, od, .func (PySem.W.fnOf x x (zxc st) (zxa st) (zzj st) .none kV doc pm an cdv ct), osl⟩) (c : PySem.W.codeIn K cdv x = true) (k : PySem.W.keepIn K (.ref f) = true)
    (hb : ∀ (kV doc pm : Value) (an : Option Addr) (cdv ct : Value) (us : List Value), us.length = ps.length → bindArgs (PySem.W.fnOf x x (zxc st) (zxa st) (zzj st) .none kV doc pm an cdv ct) ⟨us, []⟩ = pure (ps.zip us)) : Df K mg x st ps :=
  ⟨f, _, fun_mk l c k, PySem.W.mg_of X G a, (fun_mk l c k).binds hb⟩
theorem int_mk {K : PySem.W.Frag} {h : Heap} {mg : Str → Option Value} {x : Str} {i : Int} {t : Tok} (X : K.In h) (G : h.Ns mainGlobals mg) (a : PySem.W.nsIn K mainGlobals x = some (some (.int i t))) : ∃ t, mg x = some (.int i t) := ⟨t, PySem.W.mg_of X G a⟩
theorem str_mk {K : PySem.W.Frag} {h : Heap} {mg : Str → Option Value} {x z : Str} {t : Tok} (X : K.In h) (G : h.Ns mainGlobals mg) (a : PySem.W.nsIn K mainGlobals x = some (some (.str z t))) : ∃ t, mg x = some (.str z t) := ⟨t, PySem.W.mg_of X G a⟩
theorem xc_mk {K : PySem.W.Frag} {h : Heap} {mg : Str → Option Value} {x : Str} {C : Addr} (X : K.In h) (G : h.Ns mainGlobals mg) (a : PySem.W.nsIn K mainGlobals x = some (some (.ref C))) (e : PySem.W.excIn K C [.type "ValueError", .type "Exception", .type "BaseException", .type "object"] "ValueError.__new__" = true) : Xc K mg x C := ⟨PySem.W.mg_of X G a, e⟩
theorem bd_is_tile (kV doc pm : Value) (an : Option Addr) (cdv ct : Value) (us : List Value) (hl : us.length = (["house", "tile"] : List Str).length) : bindArgs (PySem.W.fnOf "is_tile" "is_tile" (zxc s_is_tile) (zxa s_is_tile) (zzj s_is_tile) .none kV doc pm an cdv ct) ⟨us, []⟩ = pure ((["house", "tile"] : List Str).zip us) := by obtain ⟨a0, a1, rfl⟩ := len2 hl; rfl
theorem bd_all_tiles (kV doc pm : Value) (an : Option Addr) (cdv ct : Value) (us : List Value) (hl : us.length = (["house"] : List Str).length) : bindArgs (PySem.W.fnOf "all_tiles" "all_tiles" (zxc zjx) (zxa zjx) (zzj zjx) .none kV doc pm an cdv ct) ⟨us, []⟩ = pure ((["house"] : List Str).zip us) := by obtain ⟨a0, rfl⟩ := len1 hl; rfl
theorem bd_is_in_order (kV doc pm : Value) (an : Option Addr) (cdv ct : Value) (us : List Value) (hl : us.length = (["row"] : List Str).length) : bindArgs (PySem.W.fnOf "is_in_order" "is_in_order" (zxc zqj) (zxa zqj) (zzj zqj) .none kV doc pm an cdv ct) ⟨us, []⟩ = pure ((["row"] : List Str).zip us) := by obtain ⟨a0, rfl⟩ := len1 hl; rfl
theorem bd_is_hand (kV doc pm : Value) (an : Option Addr) (cdv ct : Value) (us : List Value) (hl : us.length = (["house", "hand", "jokers"] : List Str).length) : bindArgs (PySem.W.fnOf "is_hand" "is_hand" (zxc s_is_hand) (zxa s_is_hand) (zzj s_is_hand) .none kV doc pm an cdv ct) ⟨us, []⟩ = pure ((["house", "hand", "jokers"] : List Str).zip us) := by obtain ⟨a0, a1, a2, rfl⟩ := len3 hl; rfl
theorem bd_check_hand (kV doc pm : Value) (an : Option Addr) (cdv ct : Value) (us : List Value) (hl : us.length = (["house", "hand", "jokers"] : List Str).length) : bindArgs (PySem.W.fnOf "check_hand" "check_hand" (zxc zqh) (zxa zqh) (zzj zqh) .none kV doc pm an cdv ct) ⟨us, []⟩ = pure ((["house", "hand", "jokers"] : List Str).zip us) := by obtain ⟨a0, a1, a2, rfl⟩ := len3 hl; rfl
theorem bd_tile_word (kV doc pm : Value) (an : Option Addr) (cdv ct : Value) (us : List Value) (hl : us.length = (["tile"] : List Str).length) : bindArgs (PySem.W.fnOf "tile_word" "tile_word" (zxc zjg) (zxa zjg) (zzj zjg) .none kV doc pm an cdv ct) ⟨us, []⟩ = pure ((["tile"] : List Str).zip us) := by obtain ⟨a0, rfl⟩ := len1 hl; rfl
theorem bd_shown (kV doc pm : Value) (an : Option Addr) (cdv ct : Value) (us : List Value) (hl : us.length = (["house", "hand", "jokers"] : List Str).length) : bindArgs (PySem.W.fnOf "shown" "shown" (zxc s_shown) (zxa s_shown) (zzj s_shown) .none kV doc pm an cdv ct) ⟨us, []⟩ = pure ((["house", "hand", "jokers"] : List Str).zip us) := by obtain ⟨a0, a1, a2, rfl⟩ := len3 hl; rfl
theorem bd_read (kV doc pm : Value) (an : Option Addr) (cdv ct : Value) (us : List Value) (hl : us.length = (["house", "text"] : List Str).length) : bindArgs (PySem.W.fnOf "read" "read" (zxc s_read) (zxa s_read) (zzj s_read) .none kV doc pm an cdv ct) ⟨us, []⟩ = pure ((["house", "text"] : List Str).zip us) := by obtain ⟨a0, a1, rfl⟩ := len2 hl; rfl
theorem bd__law_cell_at (kV doc pm : Value) (an : Option Addr) (cdv ct : Value) (us : List Value) (hl : us.length = (["script", "k"] : List Str).length) : bindArgs (PySem.W.fnOf "_law_cell_at" "_law_cell_at" (zxc zqx) (zxa zqx) (zzj zqx) .none kV doc pm an cdv ct) ⟨us, []⟩ = pure ((["script", "k"] : List Str).zip us) := by obtain ⟨a0, a1, rfl⟩ := len2 hl; rfl
theorem bd__law_mix (kV doc pm : Value) (an : Option Addr) (cdv ct : Value) (us : List Value) (hl : us.length = (["cell", "k", "many"] : List Str).length) : bindArgs (PySem.W.fnOf "_law_mix" "_law_mix" (zxc s__law_mix) (zxa s__law_mix) (zzj s__law_mix) .none kV doc pm an cdv ct) ⟨us, []⟩ = pure ((["cell", "k", "many"] : List Str).zip us) := by obtain ⟨a0, a1, a2, rfl⟩ := len3 hl; rfl
theorem bd__law_whole (kV doc pm : Value) (an : Option Addr) (cdv ct : Value) (us : List Value) (hl : us.length = (["found"] : List Str).length) : bindArgs (PySem.W.fnOf "_law_whole" "_law_whole" (zxc zqg) (zxa zqg) (zzj zqg) .none kV doc pm an cdv ct) ⟨us, []⟩ = pure ((["found"] : List Str).zip us) := by obtain ⟨a0, rfl⟩ := len1 hl; rfl
theorem bd__law_house_by (kV doc pm : Value) (an : Option Addr) (cdv ct : Value) (us : List Value) (hl : us.length = (["script"] : List Str).length) : bindArgs (PySem.W.fnOf "_law_house_by" "_law_house_by" (zxc zyg) (zxa zyg) (zzj zyg) .none kV doc pm an cdv ct) ⟨us, []⟩ = pure ((["script"] : List Str).zip us) := by obtain ⟨a0, rfl⟩ := len1 hl; rfl
theorem bd__law_trimmed (kV doc pm : Value) (an : Option Addr) (cdv ct : Value) (us : List Value) (hl : us.length = (["tiles", "limit"] : List Str).length) : bindArgs (PySem.W.fnOf "_law_trimmed" "_law_trimmed" (zxc zqz) (zxa zqz) (zzj zqz) .none kV doc pm an cdv ct) ⟨us, []⟩ = pure ((["tiles", "limit"] : List Str).zip us) := by obtain ⟨a0, a1, rfl⟩ := len2 hl; rfl
theorem bd__law_hand_by (kV doc pm : Value) (an : Option Addr) (cdv ct : Value) (us : List Value) (hl : us.length = (["script", "start", "most", "colours", "limit"] : List Str).length) : bindArgs (PySem.W.fnOf "_law_hand_by" "_law_hand_by" (zxc zyf) (zxa zyf) (zzj zyf) .none kV doc pm an cdv ct) ⟨us, []⟩ = pure ((["script", "start", "most", "colours", "limit"] : List Str).zip us) := by obtain ⟨a0, a1, a2, a3, a4, rfl⟩ := len5 hl; rfl
theorem bd__law_spoilt (kV doc pm : Value) (an : Option Addr) (cdv ct : Value) (us : List Value) (hl : us.length = (["text", "cell"] : List Str).length) : bindArgs (PySem.W.fnOf "_law_spoilt" "_law_spoilt" (zxc zqw) (zxa zqw) (zzj zqw) .none kV doc pm an cdv ct) ⟨us, []⟩ = pure ((["text", "cell"] : List Str).zip us) := by obtain ⟨a0, a1, rfl⟩ := len2 hl; rfl
theorem bd__law_tile (kV doc pm : Value) (an : Option Addr) (cdv ct : Value) (us : List Value) (hl : us.length = (["word", "most", "colours"] : List Str).length) : bindArgs (PySem.W.fnOf "_law_tile" "_law_tile" (zxc zjd) (zxa zjd) (zzj zjd) .none kV doc pm an cdv ct) ⟨us, []⟩ = pure ((["word", "most", "colours"] : List Str).zip us) := by obtain ⟨a0, a1, a2, rfl⟩ := len3 hl; rfl
theorem bd__law_due (kV doc pm : Value) (an : Option Addr) (cdv ct : Value) (us : List Value) (hl : us.length = (["text", "most", "colours"] : List Str).length) : bindArgs (PySem.W.fnOf "_law_due" "_law_due" (zxc zjy) (zxa zjy) (zzj zjy) .none kV doc pm an cdv ct) ⟨us, []⟩ = pure ((["text", "most", "colours"] : List Str).zip us) := by obtain ⟨a0, a1, a2, rfl⟩ := len3 hl; rfl
theorem bd__law_met (kV doc pm : Value) (an : Option Addr) (cdv ct : Value) (us : List Value) (hl : us.length = (["house", "text"] : List Str).length) : bindArgs (PySem.W.fnOf "_law_met" "_law_met" (zxc s__law_met) (zxa s__law_met) (zzj s__law_met) .none kV doc pm an cdv ct) ⟨us, []⟩ = pure ((["house", "text"] : List Str).zip us) := by obtain ⟨a0, a1, rfl⟩ := len2 hl; rfl
theorem bd_init (kV doc pm : Value) (an : Option Addr) (cdv ct : Value) (us : List Value) (hl : us.length = (["self", "most", "colours"] : List Str).length) : bindArgs (PySem.W.fnOf "__init__" "House.__init__" (zxc sInit) (zxa sInit) (zzj sInit) .none kV doc pm an cdv ct) ⟨us, []⟩ = pure ((["self", "most", "colours"] : List Str).zip us) := by obtain ⟨a0, a1, a2, rfl⟩ := len3 hl; rfl
noncomputable def spLaw (K : PySem.W.Frag) : Sp := fun vs H Q _ => ∃ (a : Addr) (ns : List Int), vs = [.ref a] ∧ SqL K H a (ns.map V.int) ∧ ns.length ≤ 63 ∧ ∀ H', Q (.bl true) H'
theorem law_ok {P : Program} {w : World} {K : PySem.W.Frag} {mg : Str → Option Value} {base : Heap} {C E_BadHand E_BadHouse E_BadNote E_MeldError fI : Addr} {fdI : FuncData} (T : Tx K mg C) (R : Rx K mg E_BadHand E_BadHouse E_BadNote E_MeldError) (OB : Xc K mg "BadHouse" E_BadHouse) (hM : Mk K C fI) (FI : Fun K "__init__" "House.__init__" sInit fI fdI) (hC : mg "House" = some (.ref C))
    (D_is_tile : Df K mg "is_tile" s_is_tile ["house", "tile"]) (D_all_tiles : Df K mg "all_tiles" zjx ["house"]) (D_is_in_order : Df K mg "is_in_order" zqj ["row"]) (D_is_hand : Df K mg "is_hand" s_is_hand ["house", "hand", "jokers"]) (D_check_hand : Df K mg "check_hand" zqh ["house", "hand", "jokers"]) (D_tile_word : Df K mg "tile_word" zjg ["tile"]) (D_shown : Df K mg "shown" s_shown ["house", "hand", "jokers"]) (D_read : Df K mg "read" s_read ["house", "text"]) (D__law_cell_at : Df K mg "_law_cell_at" zqx ["script", "k"]) (D__law_mix : Df K mg "_law_mix" s__law_mix ["cell", "k", "many"]) (D__law_whole : Df K mg "_law_whole" zqg ["found"]) (D__law_house_by : Df K mg "_law_house_by" zyg ["script"]) (D__law_trimmed : Df K mg "_law_trimmed" zqz ["tiles", "limit"]) (D__law_hand_by : Df K mg "_law_hand_by" zyf ["script", "start", "most", "colours", "limit"]) (D__law_spoilt : Df K mg "_law_spoilt" zqw ["text", "cell"]) (D__law_tile : Df K mg "_law_tile" zjd ["word", "most", "colours"]) (D__law_due : Df K mg "_law_due" zjy ["text", "most", "colours"]) (D__law_met : Df K mg "_law_met" s__law_met ["house", "text"]) {f : Addr} {fd : FuncData} (Fu : Fun K "law" "law" s_law f fd) : FnOk P w K mg base CX0 7 f fd ["script"] (sp0 1 (M_law K C E_BadHand E_BadHouse E_BadNote)) := by
  have h_House : HsK P w K mg base C E_BadHouse := ⟨⟨fI, fdI, _, hM, ok_init FI T OB, FI.binds bd_init, hC⟩⟩
  have h_is_tile := h_is_tile (P := P) (w := w) (base := base) T R D_is_tile
  have h_all_tiles := h_all_tiles (P := P) (w := w) (base := base) T R D_all_tiles
  have h_is_in_order := h_is_in_order (P := P) (w := w) (base := base) T R D_is_in_order
  have h_is_hand := h_is_hand (P := P) (w := w) (base := base) T R D_is_hand h_is_tile h_is_in_order
  have h_check_hand := h_check_hand (P := P) (w := w) (base := base) T R D_check_hand h_is_hand
  have h_tile_word := h_tile_word (P := P) (w := w) (base := base) T R D_tile_word
  have h_shown := h_shown (P := P) (w := w) (base := base) T R D_shown h_check_hand h_tile_word
  have h_read := h_read (P := P) (w := w) (base := base) T R D_read h_all_tiles h_tile_word h_is_hand h_shown
  have zxy := zxy (P := P) (w := w) (base := base) T R D__law_cell_at
  have zxv := zxv (P := P) (w := w) (base := base) T R D__law_mix
  have h__law_whole := h__law_whole (P := P) (w := w) (base := base) T R D__law_whole
  have h__law_house_by := h__law_house_by (P := P) (w := w) (base := base) T R D__law_house_by zxy zxv
  have h__law_trimmed := h__law_trimmed (P := P) (w := w) (base := base) T R D__law_trimmed
  have h__law_hand_by := h__law_hand_by (P := P) (w := w) (base := base) T R D__law_hand_by zxy zxv h__law_trimmed
  have h__law_spoilt := h__law_spoilt (P := P) (w := w) (base := base) T R D__law_spoilt zxv
  have h__law_tile := h__law_tile (P := P) (w := w) (base := base) T R D__law_tile
  have h__law_due := h__law_due (P := P) (w := w) (base := base) T R D__law_due h__law_tile
  have h__law_met := h__law_met (P := P) (w := w) (base := base) T R D__law_met h_read
  exact ok_law T R Fu h_House h__law_house_by h__law_hand_by zxy h__law_spoilt h__law_due h__law_met h__law_whole
theorem law_fn {P : Program} {w : World} {K : PySem.W.Frag} {mg : Str → Option Value} {base : Heap} {C E_BadHand E_BadHouse E_BadNote E_MeldError : Addr} {k : Nat} {f : Addr} {fd : FuncData} {ps : List Str} (math : ∀ ns : List Int, ns.length ≤ 63 → M_law K C E_BadHand E_BadHouse E_BadNote [.scr K ns] = rt (.d (.bool true))) (F : FnOk P w K mg base CX0 k f fd ps (sp0 1 (M_law K C E_BadHand E_BadHouse E_BadNote))) : FnOk P w K mg base CX0 k f fd ps (spLaw K) :=
  F.imp fun vs H Q E ⟨a, ns, ev, hS, hl, hq⟩ => by
    subst ev
    refine ⟨rfl, [], [.scr K ns], _, fun a ha => (nomatch ha), .cons ⟨a, rfl, hS.imp (fun z => ⟨nofun, z⟩) fun z => z⟩ .nil, math ns hl, fun v H' _ rv => ?_⟩
    cases rv
    exact hq H'
theorem all_mk {l : PySem.W.OpenLaw} {w : World} {K : PySem.W.Frag} {h : Heap} {mg : Str → Option Value} {fa C E_BadHand E_BadHouse E_BadNote E_MeldError fI f_is_tile f_all_tiles f_is_in_order f_is_hand f_check_hand f_tile_word f_shown f_read f__law_cell_at f__law_mix f__law_whole f__law_house_by f__law_trimmed f__law_hand_by f__law_spoilt f__law_tile f__law_due f__law_met f_law : Addr} {od_is_tile an_is_tile od_all_tiles an_all_tiles od_is_in_order an_is_in_order od_is_hand an_is_hand od_check_hand an_check_hand od_tile_word an_tile_word od_shown an_shown od_read an_read od__law_cell_at an__law_cell_at od__law_mix an__law_mix od__law_whole an__law_whole od__law_house_by an__law_house_by od__law_trimmed an__law_trimmed od__law_hand_by an__law_hand_by od__law_spoilt an__law_spoilt od__law_tile an__law_tile od__law_due an__law_due od__law_met an__law_met od_law an_law od_I an_I : Option Addr} {sl_is_tile sl_all_tiles sl_is_in_order sl_is_hand sl_check_hand sl_tile_word sl_shown sl_read sl__law_cell_at sl__law_mix sl__law_whole sl__law_house_by sl__law_trimmed sl__law_hand_by sl__law_spoilt sl__law_tile sl__law_due sl__law_met sl_law sl_I : Array (Option Value)} {oc_is_tile kV_is_tile dc_is_tile pm_is_tile cd_is_tile ct_is_tile oc_all_tiles kV_all_tiles dc_all_tiles pm_all_tiles cd_all_tiles ct_all_tiles oc_is_in_order kV_is_in_order dc_is_in_order pm_is_in_order cd_is_in_order ct_is_in_order oc_is_hand kV_is_hand dc_is_hand pm_is_hand cd_is_hand ct_is_hand oc_check_hand kV_check_hand dc_check_hand pm_check_hand cd_check_hand ct_check_hand oc_tile_word kV_tile_word dc_tile_word pm_tile_word cd_tile_word ct_tile_word oc_shown kV_shown dc_shown pm_shown cd_shown ct_shown oc_read kV_read dc_read pm_read cd_read ct_read oc__law_cell_at kV__law_cell_at dc__law_cell_at pm__law_cell_at cd__law_cell_at ct__law_cell_at oc__law_mix kV__law_mix dc__law_mix pm__law_mix cd__law_mix ct__law_mix oc__law_whole kV__law_whole dc__law_whole pm__law_whole cd__law_whole ct__law_whole oc__law_house_by kV__law_house_by dc__law_house_by pm__law_house_by cd__law_house_by ct__law_house_by oc__law_trimmed kV__law_trimmed dc__law_trimmed pm__law_trimmed cd__law_trimmed ct__law_trimmed oc__law_hand_by kV__law_hand_by dc__law_hand_by pm__law_hand_by cd__law_hand_by ct__law_hand_by oc__law_spoilt kV__law_spoilt dc__law_spoilt pm__law_spoilt cd__law_spoilt ct__law_spoilt oc__law_tile kV__law_tile dc__law_tile pm__law_tile cd__law_tile ct__law_tile oc__law_due kV__law_due dc__law_due pm__law_due cd__law_due ct__law_due oc__law_met kV__law_met dc__law_met pm__law_met cd__law_met ct__law_met oc_law kV_law dc_law pm_law cd_law ct_law oc_I kV_I dc_I pm_I cd_I ct_I : Value} {t_LEAST_NUMBERS t_MOST_NUMBERS t_LEAST_COLOURS t_MOST_COLOURS t_MOST_TILES t_MOST_ALIKE t_MOST_JOKERS t_LETTERS t_JOKER t_NOTHING : Tok} (X : K.In h) (G : h.Ns mainGlobals mg) (hfa : mg "law" = some (.ref fa))
    (a_is_tile : PySem.W.nsIn K mainGlobals "is_tile" = some (some (.ref f_is_tile)))
    (l_is_tile : K.lookup f_is_tile = some ⟨oc_is_tile, od_is_tile, .func (PySem.W.fnOf "is_tile" "is_tile" (zxc s_is_tile) (zxa s_is_tile) (zzj s_is_tile) .none kV_is_tile dc_is_tile pm_is_tile an_is_tile cd_is_tile ct_is_tile), sl_is_tile⟩)
    (c_is_tile : PySem.W.codeIn K cd_is_tile "is_tile" = true)
    (k_is_tile : PySem.W.keepIn K (.ref f_is_tile) = true)
    (a_all_tiles : PySem.W.nsIn K mainGlobals "all_tiles" = some (some (.ref f_all_tiles)))
    (l_all_tiles : K.lookup f_all_tiles = some ⟨oc_all_tiles, od_all_tiles, .func (PySem.W.fnOf "all_tiles" "all_tiles" (zxc zjx) (zxa zjx) (zzj zjx) .none kV_all_tiles dc_all_tiles pm_all_tiles an_all_tiles cd_all_tiles ct_all_tiles), sl_all_tiles⟩)
    (c_all_tiles : PySem.W.codeIn K cd_all_tiles "all_tiles" = true)
    (k_all_tiles : PySem.W.keepIn K (.ref f_all_tiles) = true)
    (a_is_in_order : PySem.W.nsIn K mainGlobals "is_in_order" = some (some (.ref f_is_in_order)))
    (l_is_in_order : K.lookup f_is_in_order = some ⟨oc_is_in_order, od_is_in_order, .func (PySem.W.fnOf "is_in_order" "is_in_order" (zxc zqj) (zxa zqj) (zzj zqj) .none kV_is_in_order dc_is_in_order pm_is_in_order an_is_in_order cd_is_in_order ct_is_in_order), sl_is_in_order⟩)
    (c_is_in_order : PySem.W.codeIn K cd_is_in_order "is_in_order" = true)
    (k_is_in_order : PySem.W.keepIn K (.ref f_is_in_order) = true)
    (a_is_hand : PySem.W.nsIn K mainGlobals "is_hand" = some (some (.ref f_is_hand)))
    (l_is_hand : K.lookup f_is_hand = some ⟨oc_is_hand, od_is_hand, .func (PySem.W.fnOf "is_hand" "is_hand" (zxc s_is_hand) (zxa s_is_hand) (zzj s_is_hand) .none kV_is_hand dc_is_hand pm_is_hand an_is_hand cd_is_hand ct_is_hand), sl_is_hand⟩)
    (c_is_hand : PySem.W.codeIn K cd_is_hand "is_hand" = true)
    (k_is_hand : PySem.W.keepIn K (.ref f_is_hand) = true)
    (a_check_hand : PySem.W.nsIn K mainGlobals "check_hand" = some (some (.ref f_check_hand)))
    (l_check_hand : K.lookup f_check_hand = some ⟨oc_check_hand, od_check_hand, .func (PySem.W.fnOf "check_hand" "check_hand" (zxc zqh) (zxa zqh) (zzj zqh) .none kV_check_hand dc_check_hand pm_check_hand an_check_hand cd_check_hand ct_check_hand), sl_check_hand⟩)
    (c_check_hand : PySem.W.codeIn K cd_check_hand "check_hand" = true)
    (k_check_hand : PySem.W.keepIn K (.ref f_check_hand) = true)
    (a_tile_word : PySem.W.nsIn K mainGlobals "tile_word" = some (some (.ref f_tile_word)))
    (l_tile_word : K.lookup f_tile_word = some ⟨oc_tile_word, od_tile_word, .func (PySem.W.fnOf "tile_word" "tile_word" (zxc zjg) (zxa zjg) (zzj zjg) .none kV_tile_word dc_tile_word pm_tile_word an_tile_word cd_tile_word ct_tile_word), sl_tile_word⟩)
    (c_tile_word : PySem.W.codeIn K cd_tile_word "tile_word" = true)
    (k_tile_word : PySem.W.keepIn K (.ref f_tile_word) = true)
    (a_shown : PySem.W.nsIn K mainGlobals "shown" = some (some (.ref f_shown)))
    (l_shown : K.lookup f_shown = some ⟨oc_shown, od_shown, .func (PySem.W.fnOf "shown" "shown" (zxc s_shown) (zxa s_shown) (zzj s_shown) .none kV_shown dc_shown pm_shown an_shown cd_shown ct_shown), sl_shown⟩)
    (c_shown : PySem.W.codeIn K cd_shown "shown" = true)
    (k_shown : PySem.W.keepIn K (.ref f_shown) = true)
    (a_read : PySem.W.nsIn K mainGlobals "read" = some (some (.ref f_read)))
    (l_read : K.lookup f_read = some ⟨oc_read, od_read, .func (PySem.W.fnOf "read" "read" (zxc s_read) (zxa s_read) (zzj s_read) .none kV_read dc_read pm_read an_read cd_read ct_read), sl_read⟩)
    (c_read : PySem.W.codeIn K cd_read "read" = true)
    (k_read : PySem.W.keepIn K (.ref f_read) = true)
    (a__law_cell_at : PySem.W.nsIn K mainGlobals "_law_cell_at" = some (some (.ref f__law_cell_at)))
    (l__law_cell_at : K.lookup f__law_cell_at = some ⟨oc__law_cell_at, od__law_cell_at, .func (PySem.W.fnOf "_law_cell_at" "_law_cell_at" (zxc zqx) (zxa zqx) (zzj zqx) .none kV__law_cell_at dc__law_cell_at pm__law_cell_at an__law_cell_at cd__law_cell_at ct__law_cell_at), sl__law_cell_at⟩)
    (c__law_cell_at : PySem.W.codeIn K cd__law_cell_at "_law_cell_at" = true)
    (k__law_cell_at : PySem.W.keepIn K (.ref f__law_cell_at) = true)
    (a__law_mix : PySem.W.nsIn K mainGlobals "_law_mix" = some (some (.ref f__law_mix)))
    (l__law_mix : K.lookup f__law_mix = some ⟨oc__law_mix, od__law_mix, .func (PySem.W.fnOf "_law_mix" "_law_mix" (zxc s__law_mix) (zxa s__law_mix) (zzj s__law_mix) .none kV__law_mix dc__law_mix pm__law_mix an__law_mix cd__law_mix ct__law_mix), sl__law_mix⟩)
    (c__law_mix : PySem.W.codeIn K cd__law_mix "_law_mix" = true)
    (k__law_mix : PySem.W.keepIn K (.ref f__law_mix) = true)
    (a__law_whole : PySem.W.nsIn K mainGlobals "_law_whole" = some (some (.ref f__law_whole)))
    (l__law_whole : K.lookup f__law_whole = some ⟨oc__law_whole, od__law_whole, .func (PySem.W.fnOf "_law_whole" "_law_whole" (zxc zqg) (zxa zqg) (zzj zqg) .none kV__law_whole dc__law_whole pm__law_whole an__law_whole cd__law_whole ct__law_whole), sl__law_whole⟩)
    (c__law_whole : PySem.W.codeIn K cd__law_whole "_law_whole" = true)
    (k__law_whole : PySem.W.keepIn K (.ref f__law_whole) = true)
    (a__law_house_by : PySem.W.nsIn K mainGlobals "_law_house_by" = some (some (.ref f__law_house_by)))
    (l__law_house_by : K.lookup f__law_house_by = some ⟨oc__law_house_by, od__law_house_by, .func (PySem.W.fnOf "_law_house_by" "_law_house_by" (zxc zyg) (zxa zyg) (zzj zyg) .none kV__law_house_by dc__law_house_by pm__law_house_by an__law_house_by cd__law_house_by ct__law_house_by), sl__law_house_by⟩)
    (c__law_house_by : PySem.W.codeIn K cd__law_house_by "_law_house_by" = true)
    (k__law_house_by : PySem.W.keepIn K (.ref f__law_house_by) = true)
    (a__law_trimmed : PySem.W.nsIn K mainGlobals "_law_trimmed" = some (some (.ref f__law_trimmed)))
    (l__law_trimmed : K.lookup f__law_trimmed = some ⟨oc__law_trimmed, od__law_trimmed, .func (PySem.W.fnOf "_law_trimmed" "_law_trimmed" (zxc zqz) (zxa zqz) (zzj zqz) .none kV__law_trimmed dc__law_trimmed pm__law_trimmed an__law_trimmed cd__law_trimmed ct__law_trimmed), sl__law_trimmed⟩)
    (c__law_trimmed : PySem.W.codeIn K cd__law_trimmed "_law_trimmed" = true)
    (k__law_trimmed : PySem.W.keepIn K (.ref f__law_trimmed) = true)
    (a__law_hand_by : PySem.W.nsIn K mainGlobals "_law_hand_by" = some (some (.ref f__law_hand_by)))
    (l__law_hand_by : K.lookup f__law_hand_by = some ⟨oc__law_hand_by, od__law_hand_by, .func (PySem.W.fnOf "_law_hand_by" "_law_hand_by" (zxc zyf) (zxa zyf) (zzj zyf) .none kV__law_hand_by dc__law_hand_by pm__law_hand_by an__law_hand_by cd__law_hand_by ct__law_hand_by), sl__law_hand_by⟩)
    (c__law_hand_by : PySem.W.codeIn K cd__law_hand_by "_law_hand_by" = true)
    (k__law_hand_by : PySem.W.keepIn K (.ref f__law_hand_by) = true)
    (a__law_spoilt : PySem.W.nsIn K mainGlobals "_law_spoilt" = some (some (.ref f__law_spoilt)))
    (l__law_spoilt : K.lookup f__law_spoilt = some ⟨oc__law_spoilt, od__law_spoilt, .func (PySem.W.fnOf "_law_spoilt" "_law_spoilt" (zxc zqw) (zxa zqw) (zzj zqw) .none kV__law_spoilt dc__law_spoilt pm__law_spoilt an__law_spoilt cd__law_spoilt ct__law_spoilt), sl__law_spoilt⟩)
    (c__law_spoilt : PySem.W.codeIn K cd__law_spoilt "_law_spoilt" = true)
    (k__law_spoilt : PySem.W.keepIn K (.ref f__law_spoilt) = true)
    (a__law_tile : PySem.W.nsIn K mainGlobals "_law_tile" = some (some (.ref f__law_tile)))
    (l__law_tile : K.lookup f__law_tile = some ⟨oc__law_tile, od__law_tile, .func (PySem.W.fnOf "_law_tile" "_law_tile" (zxc zjd) (zxa zjd) (zzj zjd) .none kV__law_tile dc__law_tile pm__law_tile an__law_tile cd__law_tile ct__law_tile), sl__law_tile⟩)
    (c__law_tile : PySem.W.codeIn K cd__law_tile "_law_tile" = true)
    (k__law_tile : PySem.W.keepIn K (.ref f__law_tile) = true)
    (a__law_due : PySem.W.nsIn K mainGlobals "_law_due" = some (some (.ref f__law_due)))
    (l__law_due : K.lookup f__law_due = some ⟨oc__law_due, od__law_due, .func (PySem.W.fnOf "_law_due" "_law_due" (zxc zjy) (zxa zjy) (zzj zjy) .none kV__law_due dc__law_due pm__law_due an__law_due cd__law_due ct__law_due), sl__law_due⟩)
    (c__law_due : PySem.W.codeIn K cd__law_due "_law_due" = true)
    (k__law_due : PySem.W.keepIn K (.ref f__law_due) = true)
    (a__law_met : PySem.W.nsIn K mainGlobals "_law_met" = some (some (.ref f__law_met)))
    (l__law_met : K.lookup f__law_met = some ⟨oc__law_met, od__law_met, .func (PySem.W.fnOf "_law_met" "_law_met" (zxc s__law_met) (zxa s__law_met) (zzj s__law_met) .none kV__law_met dc__law_met pm__law_met an__law_met cd__law_met ct__law_met), sl__law_met⟩)
    (c__law_met : PySem.W.codeIn K cd__law_met "_law_met" = true)
    (k__law_met : PySem.W.keepIn K (.ref f__law_met) = true)
    (a_law : PySem.W.nsIn K mainGlobals "law" = some (some (.ref f_law)))
    (l_law : K.lookup f_law = some ⟨oc_law, od_law, .func (PySem.W.fnOf "law" "law" (zxc s_law) (zxa s_law) (zzj s_law) .none kV_law dc_law pm_law an_law cd_law ct_law), sl_law⟩)
    (c_law : PySem.W.codeIn K cd_law "law" = true)
    (k_law : PySem.W.keepIn K (.ref f_law) = true)
    (aC : PySem.W.nsIn K mainGlobals "House" = some (some (.ref C)))
    (aI : PySem.W.findIn K (.ref C) "__init__" = some (some (.ref fI)))
    (iI : PySem.W.isFn K (.ref fI) = true)
    (lI : K.lookup fI = some ⟨oc_I, od_I, .func (PySem.W.fnOf "__init__" "House.__init__" (zxc sInit) (zxa sInit) (zzj sInit) .none kV_I dc_I pm_I an_I cd_I ct_I), sl_I⟩)
    (cI : PySem.W.codeIn K cd_I "House.__init__" = true)
    (kI : PySem.W.keepIn K (.ref fI) = true)
    (pg : PySem.W.plainGet K C Str.empty = true)
    (hd : PySem.W.hasDictIn K C = true)
    (po : PySem.W.plainOver K C = true)
    (sa : PySem.W.findIn K (.ref C) "__setattr__" = some (some (.builtin "object.__setattr__")))
    (mk : PySem.W.makesIn K C = true)
    (kc : PySem.W.keepIn K (.ref C) = true)
    (n_colours : PySem.W.findIn K (.ref C) "colours" = some none)
    (n_most : PySem.W.findIn K (.ref C) "most" = some none)
    (i_LEAST_NUMBERS : PySem.W.nsIn K mainGlobals "LEAST_NUMBERS" = some (some (.int 3 t_LEAST_NUMBERS)))
    (i_MOST_NUMBERS : PySem.W.nsIn K mainGlobals "MOST_NUMBERS" = some (some (.int 13 t_MOST_NUMBERS)))
    (i_LEAST_COLOURS : PySem.W.nsIn K mainGlobals "LEAST_COLOURS" = some (some (.int 1 t_LEAST_COLOURS)))
    (i_MOST_COLOURS : PySem.W.nsIn K mainGlobals "MOST_COLOURS" = some (some (.int 4 t_MOST_COLOURS)))
    (i_MOST_TILES : PySem.W.nsIn K mainGlobals "MOST_TILES" = some (some (.int 12 t_MOST_TILES)))
    (i_MOST_ALIKE : PySem.W.nsIn K mainGlobals "MOST_ALIKE" = some (some (.int 2 t_MOST_ALIKE)))
    (i_MOST_JOKERS : PySem.W.nsIn K mainGlobals "MOST_JOKERS" = some (some (.int 2 t_MOST_JOKERS)))
    (i_LETTERS : PySem.W.nsIn K mainGlobals "LETTERS" = some (some (.str "abcd" t_LETTERS)))
    (i_JOKER : PySem.W.nsIn K mainGlobals "JOKER" = some (some (.str "*" t_JOKER)))
    (i_NOTHING : PySem.W.nsIn K mainGlobals "NOTHING" = some (some (.str "-" t_NOTHING)))
    (b_ValueError : PySem.W.nsIn K mainGlobals "ValueError" = some none)
    (b_all : PySem.W.nsIn K mainGlobals "all" = some none)
    (b_bool : PySem.W.nsIn K mainGlobals "bool" = some none)
    (b_dict : PySem.W.nsIn K mainGlobals "dict" = some none)
    (b_int : PySem.W.nsIn K mainGlobals "int" = some none)
    (b_isinstance : PySem.W.nsIn K mainGlobals "isinstance" = some none)
    (b_len : PySem.W.nsIn K mainGlobals "len" = some none)
    (b_list : PySem.W.nsIn K mainGlobals "list" = some none)
    (b_max : PySem.W.nsIn K mainGlobals "max" = some none)
    (b_min : PySem.W.nsIn K mainGlobals "min" = some none)
    (b_range : PySem.W.nsIn K mainGlobals "range" = some none)
    (b_sorted : PySem.W.nsIn K mainGlobals "sorted" = some none)
    (b_str : PySem.W.nsIn K mainGlobals "str" = some none)
    (b_tuple : PySem.W.nsIn K mainGlobals "tuple" = some none)
    (a_E_BadHand : PySem.W.nsIn K mainGlobals "BadHand" = some (some (.ref E_BadHand)))
    (a_E_BadHouse : PySem.W.nsIn K mainGlobals "BadHouse" = some (some (.ref E_BadHouse)))
    (a_E_BadNote : PySem.W.nsIn K mainGlobals "BadNote" = some (some (.ref E_BadNote)))
    (a_E_MeldError : PySem.W.nsIn K mainGlobals "MeldError" = some (some (.ref E_MeldError)))
    (e_E_BadHouse : PySem.W.excIn K E_BadHouse [.type "ValueError", .type "Exception", .type "BaseException", .type "object"] "ValueError.__new__" = true)
    (e_E_BadHand : PySem.W.excIn K E_BadHand [.type "ValueError", .type "Exception", .type "BaseException", .type "object"] "ValueError.__new__" = true)
    (e_E_BadNote : PySem.W.excIn K E_BadNote [.type "ValueError", .type "Exception", .type "BaseException", .type "object"] "ValueError.__new__" = true)
    (q_BadNote_MeldError : PySem.W.kitOne K (.ref E_BadNote) (.ref E_MeldError) = some true)
    (q_BadNote_ValueError : PySem.W.kitOne K (.ref E_BadNote) (.type "ValueError") = some true) :
    ∃ fd : FuncData, (∀ (s : Shared) (v : Value), BindsTo s fd ⟨[v], []⟩ [("script", v)]) ∧ ∀ base : Heap, K.In base → base.Ns mainGlobals mg → FnOk l.prog w K mg base CX0 7 fa fd ["script"] (spLaw K) := by
  have e := hfa.symm.trans (PySem.W.mg_of X G a_law)
  cases e
  have T : Tx K mg C := ⟨⟨pg, hd, po, sa⟩, n_colours, n_most, int_mk X G i_LEAST_NUMBERS, int_mk X G i_MOST_NUMBERS, int_mk X G i_LEAST_COLOURS, int_mk X G i_MOST_COLOURS, int_mk X G i_MOST_TILES, int_mk X G i_MOST_ALIKE, int_mk X G i_MOST_JOKERS, str_mk X G i_LETTERS, str_mk X G i_JOKER, str_mk X G i_NOTHING, PySem.W.mg_none_of X G b_ValueError, PySem.W.mg_none_of X G b_all, PySem.W.mg_none_of X G b_bool, PySem.W.mg_none_of X G b_dict, PySem.W.mg_none_of X G b_int, PySem.W.mg_none_of X G b_isinstance, PySem.W.mg_none_of X G b_len, PySem.W.mg_none_of X G b_list, PySem.W.mg_none_of X G b_max, PySem.W.mg_none_of X G b_min, PySem.W.mg_none_of X G b_range, PySem.W.mg_none_of X G b_sorted, PySem.W.mg_none_of X G b_str, PySem.W.mg_none_of X G b_tuple⟩
  have R : Rx K mg E_BadHand E_BadHouse E_BadNote E_MeldError := ⟨xc_mk X G a_E_BadHand e_E_BadHand, xc_mk X G a_E_BadNote e_E_BadNote, q_BadNote_MeldError, PySem.W.mg_of X G a_E_MeldError, q_BadNote_ValueError⟩
  refine ⟨PySem.W.fnOf "law" "law" (zxc s_law) (zxa s_law) (zzj s_law) .none kV_law dc_law pm_law an_law cd_law ct_law, fun s v => .of_eq rfl, fun base kb nb => ?_⟩
  refine law_fn (C := C) (E_BadHand := E_BadHand) (E_BadHouse := E_BadHouse) (E_BadNote := E_BadNote) (E_MeldError := E_MeldError) (fun ns hl => math K C E_BadHand E_BadHouse E_BadNote ns hl) ?_
  exact law_ok (P := l.prog) (w := w) (base := base) T R (xc_mk X G a_E_BadHouse e_E_BadHouse) ⟨mk, aI, iI, kc⟩ (fun_mk lI cI kI) (PySem.W.mg_of X G aC) (df_mk X G a_is_tile l_is_tile c_is_tile k_is_tile bd_is_tile) (df_mk X G a_all_tiles l_all_tiles c_all_tiles k_all_tiles bd_all_tiles) (df_mk X G a_is_in_order l_is_in_order c_is_in_order k_is_in_order bd_is_in_order) (df_mk X G a_is_hand l_is_hand c_is_hand k_is_hand bd_is_hand) (df_mk X G a_check_hand l_check_hand c_check_hand k_check_hand bd_check_hand) (df_mk X G a_tile_word l_tile_word c_tile_word k_tile_word bd_tile_word) (df_mk X G a_shown l_shown c_shown k_shown bd_shown) (df_mk X G a_read l_read c_read k_read bd_read) (df_mk X G a__law_cell_at l__law_cell_at c__law_cell_at k__law_cell_at bd__law_cell_at) (df_mk X G a__law_mix l__law_mix c__law_mix k__law_mix bd__law_mix) (df_mk X G a__law_whole l__law_whole c__law_whole k__law_whole bd__law_whole) (df_mk X G a__law_house_by l__law_house_by c__law_house_by k__law_house_by bd__law_house_by) (df_mk X G a__law_trimmed l__law_trimmed c__law_trimmed k__law_trimmed bd__law_trimmed) (df_mk X G a__law_hand_by l__law_hand_by c__law_hand_by k__law_hand_by bd__law_hand_by) (df_mk X G a__law_spoilt l__law_spoilt c__law_spoilt k__law_spoilt bd__law_spoilt) (df_mk X G a__law_tile l__law_tile c__law_tile k__law_tile bd__law_tile) (df_mk X G a__law_due l__law_due c__law_due k__law_due bd__law_due) (df_mk X G a__law_met l__law_met c__law_met k__law_met bd__law_met) (fun_mk l_law c_law k_law)
theorem walk {l : PySem.W.OpenLaw} {q : Program} {loose : List Str} {XP : (Str → Option Value) → Heap → Prop} {YP : World → Heap → Prop} {d : DefRec} {K : Params → PySem.W.Frag} (hn : l.most = some 63) (hdf : d.params.defaults = [])
    (hY : ∀ (w : World) (h : Heap), YP w h → (K w.params).In h)
    (F : ∀ (w : World) (mg : Str → Option Value) (fa : Addr) (h : Heap), (K w.params).In h → h.Ns mainGlobals mg → mg d.name = some (.ref fa) →
      ∃ fd : FuncData, (∀ (s : Shared) (u : Value), BindsTo s fd ⟨[u], []⟩ [("script", u)]) ∧ ∀ base : Heap, (K w.params).In base → base.Ns mainGlobals mg → FnOk l.prog w (K w.params) mg base CX0 7 fa fd ["script"] (spLaw (K w.params))) :
    PySem.W.WalkO q loose XP YP l.row.toRowW d [] (fun f vs => PySem.call f vs) :=
  L2.walk_of (n := 63) (k := 7) (x := "script") (CX := fun _ => CX0) (sp := fun w => spLaw (K w.params)) hn (by decide) hdf ⟨rfl, by decide, by decide⟩ hY F (fun _ _ a ns hl _ hS => ⟨a, ns, rfl, hS, hl, fun _ => rfl⟩) fun _ _ _ _ _ z => z
theorem walkX {q : Program} {loose : List Str} {XP : (Str → Option Value) → Heap → Prop} {K : Params → PySem.W.Frag} {as : List Addr} {n t : Nat} {r : PySem.W.RowW} {d : DefRec} {kwd : List (Str × Expr)} {run : Value → List Value → Sem Value} (e : ∀ P, as = (K P).map (·.1))
    (h : PySem.W.WalkO q loose XP (fun w h => (K w.params).In h) r d kwd run) : PySem.W.WalkX q loose XP (PySem.W.X.obsZ as) (PySem.W.X.valZ K n t) r d kwd run := by
  intro w s₀ s₁ mg mb G y a o pm cd doc dV kV h1 h2 h3 h4 h5 h6 args vals as' L hpre hlay hrd hwl hlo
  exact h w s₀ s₁ mg mb G (fun b ob hb => L.keeps _ _ ((PySem.W.X.z_facts e y).2.1 b ob hb)) a o pm cd doc dV kV h1 h2 h3 h4 h5 h6 args vals as' hpre hlay hrd hwl hlo
end K10
open PySem PySem.W PyProof.Rows L2 L3 LW K10
set_option maxRecDepth 100000 in
set_option maxHeartbeats 0 in
theorem PySem.Challenge.cw_meldhouse_k10_texts_read_holds : PySem.Challenge.rw_meldhouse_k10_texts_read.Holds := by
  w_on; o_law; z_head; (case hw => w_witness2)
  k_fill
  refine K10.walkX (fun _ => rfl) (K10.walk (l := PySem.Challenge.rw_meldhouse_k10_texts_read) rfl rfl (fun w h Y => Y) ?F)
  case F =>
    intro w mg fa h KX G hmg
    refine' K10.all_mk KX G hmg ?a_is_tile ?l_is_tile ?c_is_tile ?k_is_tile ?a_all_tiles ?l_all_tiles ?c_all_tiles ?k_all_tiles ?a_is_in_order ?l_is_in_order ?c_is_in_order ?k_is_in_order ?a_is_hand ?l_is_hand ?c_is_hand ?k_is_hand ?a_check_hand ?l_check_hand ?c_check_hand ?k_check_hand ?a_tile_word ?l_tile_word ?c_tile_word ?k_tile_word ?a_shown ?l_shown ?c_shown ?k_shown ?a_read ?l_read ?c_read ?k_read ?a__law_cell_at ?l__law_cell_at ?c__law_cell_at ?k__law_cell_at ?a__law_mix ?l__law_mix ?c__law_mix ?k__law_mix ?a__law_whole ?l__law_whole ?c__law_whole ?k__law_whole ?a__law_house_by ?l__law_house_by ?c__law_house_by ?k__law_house_by ?a__law_trimmed ?l__law_trimmed ?c__law_trimmed ?k__law_trimmed ?a__law_hand_by ?l__law_hand_by ?c__law_hand_by ?k__law_hand_by ?a__law_spoilt ?l__law_spoilt ?c__law_spoilt ?k__law_spoilt ?a__law_tile ?l__law_tile ?c__law_tile ?k__law_tile ?a__law_due ?l__law_due ?c__law_due ?k__law_due ?a__law_met ?l__law_met ?c__law_met ?k__law_met ?a_law ?l_law ?c_law ?k_law ?aC ?aI ?iI ?lI ?cI ?kI ?pg ?hd ?po ?sa ?mk ?kc ?n_colours ?n_most ?i_LEAST_NUMBERS ?i_MOST_NUMBERS ?i_LEAST_COLOURS ?i_MOST_COLOURS ?i_MOST_TILES ?i_MOST_ALIKE ?i_MOST_JOKERS ?i_LETTERS ?i_JOKER ?i_NOTHING ?b_ValueError ?b_all ?b_bool ?b_dict ?b_int ?b_isinstance ?b_len ?b_list ?b_max ?b_min ?b_range ?b_sorted ?b_str ?b_tuple ?a_E_BadHand ?a_E_BadHouse ?a_E_BadNote ?a_E_MeldError ?e_E_BadHouse ?e_E_BadHand ?e_E_BadNote ?q_BadNote_MeldError ?q_BadNote_ValueError
    (case a_is_tile => k_is)
    (case l_is_tile => k_is)
    (case c_is_tile => k_is)
    (case k_is_tile => k_is)
    (case a_all_tiles => k_is)
    (case l_all_tiles => k_is)
    (case c_all_tiles => k_is)
    (case k_all_tiles => k_is)
    (case a_is_in_order => k_is)
    (case l_is_in_order => k_is)
    (case c_is_in_order => k_is)
    (case k_is_in_order => k_is)
    (case a_is_hand => k_is)
    (case l_is_hand => k_is)
    (case c_is_hand => k_is)
    (case k_is_hand => k_is)
    (case a_check_hand => k_is)
    (case l_check_hand => k_is)
    (case c_check_hand => k_is)
    (case k_check_hand => k_is)
    (case a_tile_word => k_is)
    (case l_tile_word => k_is)
    (case c_tile_word => k_is)
    (case k_tile_word => k_is)
    (case a_shown => k_is)
    (case l_shown => k_is)
    (case c_shown => k_is)
    (case k_shown => k_is)
    (case a_read => k_is)
    (case l_read => k_is)
    (case c_read => k_is)
    (case k_read => k_is)
    (case a__law_cell_at => k_is)
    (case l__law_cell_at => k_is)
    (case c__law_cell_at => k_is)
    (case k__law_cell_at => k_is)
    (case a__law_mix => k_is)
    (case l__law_mix => k_is)
    (case c__law_mix => k_is)
    (case k__law_mix => k_is)
    (case a__law_whole => k_is)
    (case l__law_whole => k_is)
    (case c__law_whole => k_is)
    (case k__law_whole => k_is)
    (case a__law_house_by => k_is)
    (case l__law_house_by => k_is)
    (case c__law_house_by => k_is)
    (case k__law_house_by => k_is)
    (case a__law_trimmed => k_is)
    (case l__law_trimmed => k_is)
    (case c__law_trimmed => k_is)
    (case k__law_trimmed => k_is)
    (case a__law_hand_by => k_is)
    (case l__law_hand_by => k_is)
    (case c__law_hand_by => k_is)
    (case k__law_hand_by => k_is)
    (case a__law_spoilt => k_is)
    (case l__law_spoilt => k_is)
    (case c__law_spoilt => k_is)
    (case k__law_spoilt => k_is)
    (case a__law_tile => k_is)
    (case l__law_tile => k_is)
    (case c__law_tile => k_is)
    (case k__law_tile => k_is)
    (case a__law_due => k_is)
    (case l__law_due => k_is)
    (case c__law_due => k_is)
    (case k__law_due => k_is)
    (case a__law_met => k_is)
    (case l__law_met => k_is)
    (case c__law_met => k_is)
    (case k__law_met => k_is)
    (case a_law => k_is)
    (case l_law => k_is)
    (case c_law => k_is)
    (case k_law => k_is)
    (case aC => k_is)
    (case aI => k_is)
    (case iI => k_is)
    (case lI => k_is)
    (case cI => k_is)
    (case kI => k_is)
    (case pg => k_is)
    (case hd => k_is)
    (case po => k_is)
    (case sa => k_is)
    (case mk => k_is)
    (case kc => k_is)
    (case n_colours => k_is)
    (case n_most => k_is)
    (case i_LEAST_NUMBERS => k_is)
    (case i_MOST_NUMBERS => k_is)
    (case i_LEAST_COLOURS => k_is)
    (case i_MOST_COLOURS => k_is)
    (case i_MOST_TILES => k_is)
    (case i_MOST_ALIKE => k_is)
    (case i_MOST_JOKERS => k_is)
    (case i_LETTERS => k_is)
    (case i_JOKER => k_is)
    (case i_NOTHING => k_is)
    (case b_ValueError => k_is)
    (case b_all => k_is)
    (case b_bool => k_is)
    (case b_dict => k_is)
    (case b_int => k_is)
    (case b_isinstance => k_is)
    (case b_len => k_is)
    (case b_list => k_is)
    (case b_max => k_is)
    (case b_min => k_is)
    (case b_range => k_is)
    (case b_sorted => k_is)
    (case b_str => k_is)
    (case b_tuple => k_is)
    (case a_E_BadHand => k_is)
    (case a_E_BadHouse => k_is)
    (case a_E_BadNote => k_is)
    (case a_E_MeldError => k_is)
    (case e_E_BadHouse => k_exc)
    (case e_E_BadHand => k_exc)
    (case e_E_BadNote => k_exc)
    (case q_BadNote_MeldError => kit_is)
    (case q_BadNote_ValueError => kit_is)
