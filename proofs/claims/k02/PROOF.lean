import PyProof.Rows.All
import Wide.All
import OpenK.AllK
import Wide.FinOn
import Lean
import PyProof.EqAt
import PyProof.EqKinds
import PyProof.TupleCall
import PySem.Challenge.RW_meldhouse_k02_melds
set_option Elab.async false
set_option linter.all false
set_option maxRecDepth 100000
namespace L2
open PySem PySem.Spec PyProof.Rows
abbrev Key := Sum Int Str
def keyIs : Key → Value → Bool
  | .inl k, v => Value.isInt k v
  | .inr x, v => Value.isStrOf x v
def keyH (w : World) : Key → Int
  | .inl k => hashInt k
  | .inr x => hashStr w x
theorem keyIs_shape : ∀ {k : Key} {v : Value}, keyIs k v = true → (∃ i t, k = Sum.inl i ∧ v = Value.int i t) ∨ (∃ x t, k = Sum.inr x ∧ v = Value.str x t)
  | .inl i, v, h => by
    obtain ⟨t, e⟩ := Value.isInt_shape (k := i) (v := v) h
    exact .inl ⟨i, t, rfl, e⟩
  | .inr x, v, h => by
    obtain ⟨t, e⟩ := Value.isStrOf_shape (x := x) (v := v) h
    exact .inr ⟨x, t, rfl, e⟩
theorem key_ll (a b : Int) : decide ((Sum.inl a : Key) = Sum.inl b) = (a == b) := by
  by_cases e : a = b
  · subst e; simp
  · have h : ¬ (Sum.inl a : Key) = Sum.inl b := fun q => e (Sum.inl.inj q)
    rw [decide_eq_false h]
    exact (beq_eq_false_iff_ne.mpr e).symm
theorem key_rr (a b : Str) : decide ((Sum.inr a : Key) = Sum.inr b) = decide (a = b) := by
  by_cases e : a = b
  · subst e; simp
  · have h : ¬ (Sum.inr a : Key) = Sum.inr b := fun q => e (Sum.inr.inj q)
    rw [decide_eq_false h, decide_eq_false e]
theorem key_lr (a : Int) (b : Str) : decide ((Sum.inl a : Key) = Sum.inr b) = false := decide_eq_false (fun q => nomatch q)
theorem key_rl (a : Str) (b : Int) : decide ((Sum.inr a : Key) = Sum.inl b) = false := decide_eq_false (fun q => nomatch q)
def mixKind (prog : Program) (w : World) : PySem.KeyKind prog w Key where
  is := keyIs
  hash := keyH w
  inj := fun v a b ha hb => by
    rcases keyIs_shape ha with ⟨i, t, rfl, rfl⟩ | ⟨x, t, rfl, rfl⟩
    · rcases keyIs_shape hb with ⟨j, u, rfl, e⟩ | ⟨y, u, rfl, e⟩
      · injection e with e1 _; rw [e1]
      · exact nomatch e
    · rcases keyIs_shape hb with ⟨j, u, rfl, e⟩ | ⟨y, u, rfl, e⟩
      · exact nomatch e
      · injection e with e1 _; rw [e1]
  byValue := fun k v h => by
    rcases keyIs_shape h with ⟨i, t, rfl, rfl⟩ | ⟨x, t, rfl, rfl⟩ <;> rfl
  pyHash := fun hv h => by
    rcases keyIs_shape hv with ⟨i, t, rfl, rfl⟩ | ⟨x, t, rfl, rfl⟩
    · exact wpAny_pyHash_int h
    · exact wpAny_pyHash_str h
  eqBool := fun hu hv h => by
    rcases keyIs_shape hu with ⟨i, t, rfl, rfl⟩ | ⟨x, t, rfl, rfl⟩
    · rcases keyIs_shape hv with ⟨j, u, rfl, rfl⟩ | ⟨y, u, rfl, rfl⟩
      · rw [key_ll] at h; exact wpAny_eqBool_int h
      · rw [key_lr] at h; exact SeqAt.EqAt.int_str i t y u _ _ _ _ h
    · rcases keyIs_shape hv with ⟨j, u, rfl, rfl⟩ | ⟨y, u, rfl, rfl⟩
      · rw [key_rl] at h; exact SeqAt.EqAt.str_int x t j u _ _ _ _ h
      · rw [key_rr] at h; exact wpAny_eqBool_str h
  «strs» := fun k x t v h => by
    rcases keyIs_shape h with ⟨i, u, rfl, e⟩ | ⟨y, u, rfl, e⟩
    · exact nomatch e
    · injection e with e1 _
      subst e1
      cases v <;> rfl
end L2
namespace L2
open PySem PySem.Spec PyProof.Rows
inductive V where
  | non | bl (b : Bool) | int (i : Int) | str (x : Str) | byt (b : Array UInt8) | flt (b : UInt64) | ref (a : Addr) | ty (n : String)
  deriving DecidableEq
def RelV : V → Value → Prop
  | .non, u => u = Value.none
  | .bl b, u => u = Value.bool b
  | .int i, u => ∃ t, u = Value.int i t
  | .str x, u => ∃ t, u = Value.str x t
  | .byt b, u => ∃ t, u = Value.bytes b t
  | .flt b, u => ∃ t, u = Value.float b t
  | .ref a, u => u = Value.ref a
  | .ty n, u => u = Value.type n
abbrev Vals : List V → List Value → Prop := Paired RelV
theorem Vals.length {xs : List V} {us : List Value} (r : Vals xs us) : xs.length = us.length := Paired.length r
theorem Vals.get : ∀ {xs : List V} {us : List Value} {i : Nat} {x : V}, Vals xs us → xs[i]? = some x → ∃ u, us[i]? = some u ∧ RelV x u
  | _, _, _, _, .nil, e => by simp at e
  | _, _, 0, _, .cons r _, e => by simp at e; subst e; exact ⟨_, rfl, r⟩
  | _, _, i + 1, x, .cons _ t, e => by
    obtain ⟨u, h1, h2⟩ := Vals.get (i := i) (x := x) t (by simpa using e)
    exact ⟨u, by simpa using h1, h2⟩
theorem Vals.set {x : V} {u : Value} (r : RelV x u) : ∀ {xs : List V} {us : List Value} (i : Nat), Vals xs us → Vals (xs.set i x) (us.set i u)
  | _, _, _, .nil => .nil
  | _, _, 0, .cons _ t => .cons r t
  | _, _, i + 1, .cons q t => .cons q (Vals.set r i t)
theorem Vals.append : ∀ {xs ys : List V} {us ws : List Value}, Vals xs us → Vals ys ws → Vals (xs ++ ys) (us ++ ws)
  | _, _, _, _, .nil, s => s
  | _, _, _, _, .cons r t, s => .cons r (Vals.append t s)
theorem Vals.take : ∀ {xs : List V} {us : List Value} (n : Nat), Vals xs us → Vals (xs.take n) (us.take n)
  | _, _, 0, _ => .nil
  | _, _, _ + 1, .nil => .nil
  | _, _, n + 1, .cons r t => .cons r (Vals.take n t)
theorem Vals.drop : ∀ {xs : List V} {us : List Value} (n : Nat), Vals xs us → Vals (xs.drop n) (us.drop n)
  | _, _, 0, r => r
  | _, _, _ + 1, .nil => .nil
  | _, _, n + 1, .cons _ t => Vals.drop n t
def RelO : Option V → Option Value → Prop
  | some v, some u => RelV v u
  | none, none => True
  | _, _ => False
def KV {κ : Type} : List (κ × V) → List (κ × Value) → Prop := Paired fun (p : κ × V) (q : κ × Value) => p.1 = q.1 ∧ RelV p.2 q.2
def kV : Key → V
  | .inl i => .int i
  | .inr x => .str x
inductive HO where
  | lst (xs : List V)
  | tup (xs : List V)
  | dK (kvs : List (Key × V)) | dT (kvs : List (List Key × V))
  | set (S : Int → Bool) (n : Nat)
  | ins (C dx : Addr) (fs : List (Str × V))
  | own (x : Addr)
  | xd (fs : List (Str × V))
  | met (f x : Addr)
  | rng (lo hi : Int)
  | frz (o : Obj) (u : HO)
  | tbl (ps : Array Value)
  | ext (φ : Heap → Prop)
abbrev Hp := Addr → Option HO
def upd (H : Hp) (a : Addr) (o : HO) : Hp := fun b => if b = a then some o else H b
theorem upd_same {H : Hp} {a : Addr} {o : HO} : upd H a o a = some o := by unfold upd; rw [if_pos rfl]
theorem upd_ne {H : Hp} {a b : Addr} {o : HO} (h : b ≠ a) : upd H a o b = H b := by unfold upd; rw [if_neg h]
theorem ne_of_none {H : Hp} {a b : Addr} {o : HO} (h : H a = some o) (h' : H b = none) : a ≠ b := by
  intro e; subst e; rw [h] at h'; cases h'
section
variable (P : Program) (w : World)
def ObjOk (H : Hp) (h : Heap) (a : Addr) : HO → Prop
  | .lst xs => xs.length ≤ sizeLine ∧ ∃ (its : List Value) (n : Nat), Vals xs its ∧ h.get? a = some { cls := .type "list", data := .seq its.toArray n }
  | .tup xs => xs.length ≤ sizeLine ∧ ∃ its : List Value, Vals xs its ∧ IsTup h a its.toArray
  | .dK kvs => kvs.length ≤ sizeLine ∧ (a == sysModules) = false ∧ ∃ vs, KV kvs vs ∧ h.DictOf (mixKind P w) a vs
  | .dT kvs => kvs.length ≤ sizeLine ∧ (a == sysModules) = false ∧ ∃ xs : List (List Key × Addr × Value),
      Paired (fun (p : List Key × V) (q : List Key × Addr × Value) => p.1 = q.1 ∧ H q.2.1 = some (.tup (p.1.map kV)) ∧ RelV p.2 q.2.2) kvs xs ∧
      ∃ o es ep, h.get? a = some o ∧ o.ExactDict ∧ o.data = .dict es ep ∧ es.toList = xs.map (entryOfKey (tupleKind (mixKind P w))) ∧ (xs.map (·.1)).Nodup
  | .set S n => h.SetOf (intKind P w) a S n
  | .ins C dx fs => H dx = some (.own a) ∧ fs.length ≤ 1000 ∧ dx ≠ a ∧ h.get? a = some (PySem.W.instObj C dx) ∧
      ∃ mA, h.Ns1 dx mA ∧ (∀ f, RelO (fs.lookup f) (mA f)) ∧ PySem.Within mA (fs.map (·.1))
  | .own _ => ∃ o, h.get? a = some o
  | .xd fs => ∃ mA, h.Ns1 a mA ∧ ∀ f, RelO (fs.lookup f) (mA f)
  | .rng lo hi => ∃ t u v, h.get? a = some { cls := .type "range", data := .fields #[.int lo t, .int hi u, .int 1 v] }
  | .frz o u => h.get? a = some o ∧ ObjOk H h a u
  | .tbl ps => h.get? a = some { cls := .none, data := .fields ps }
  | .met f x => h.get? a = some (PySem.W.methodObj (.ref f) (.ref x))
  | .ext φ => φ h ∧ (∃ o, h.get? a = some o) ∧ ∀ h1 h2 : Heap, φ h1 → (∀ o, h1.get? a = some o → h2.get? a = some o) → φ h2
def HOk (H : Hp) (h : Heap) : Prop := ∀ a o, H a = some o → ObjOk P w H h a o
end
section
variable {P : Program} {w : World} {H H' : Hp} {h h' : Heap} {a : Addr} {o : HO}
theorem ObjOk.lt (x : ObjOk P w H h a o) : a < h.objs.size := by
  cases o with
  | lst xs => obtain ⟨_, _, _, _, e⟩ := x; exact Heap.lt_size e
  | tup xs => obtain ⟨_, _, _, p⟩ := x; exact p.lt
  | dK kvs => obtain ⟨_, _, _, _, o, _, _, e, _⟩ := x; exact Heap.lt_size e
  | dT kvs => obtain ⟨_, _, _, _, o, _, _, e, _⟩ := x; exact Heap.lt_size e
  | set S n => obtain ⟨o, _, _, _, e, _⟩ := x; exact Heap.lt_size e
  | ins C dx fs => obtain ⟨_, _, _, e, _⟩ := x; exact Heap.lt_size e
  | own y => obtain ⟨_, e⟩ := x; exact Heap.lt_size e
  | xd fs => obtain ⟨_, ⟨_, _, _, e, _⟩, _⟩ := x; exact Heap.lt_size e
  | rng lo hi => obtain ⟨_, _, _, e⟩ := x; exact Heap.lt_size e
  | frz ob u => obtain ⟨e, _⟩ := x; exact Heap.lt_size e
  | tbl ps => exact Heap.lt_size (show h.get? a = some _ from x)
  | met f y => exact Heap.lt_size (show h.get? a = some _ from x)
  | ext φ => obtain ⟨_, ⟨_, e⟩, _⟩ := x; exact Heap.lt_size e
theorem Paired.mapP {α β : Type} {F G : α → β → Prop} : ∀ {l₁ : List α} {l₂ : List β}, Paired F l₁ l₂ → (∀ a b, F a b → G a b) → Paired G l₁ l₂
  | _, _, .nil, _ => .nil
  | _, _, .cons r t, f => .cons (f _ _ r) (Paired.mapP t f)
theorem ObjOk.stay (x : ObjOk P w H h a o) (k : ∀ b u, (b = a ∨ H b = some (.own a)) → h.get? b = some u → h'.get? b = some u)
    (ho : ∀ b, H b = some (.own a) → H' b = some (.own a)) (ht : ∀ b xs, H b = some (.tup xs) → H' b = some (.tup xs)) : ObjOk P w H' h' a o := by
  induction o with
  | lst xs => obtain ⟨z, its, n, r, e⟩ := x; exact ⟨z, its, n, r, k _ _ (.inl rfl) e⟩
  | tup xs => obtain ⟨z, its, r, ob, e, c⟩ := x; exact ⟨z, its, r, ob, k _ _ (.inl rfl) e, c⟩
  | dK kvs => obtain ⟨z, y, vs, r, ob, es, ep, e, c⟩ := x; exact ⟨z, y, vs, r, ob, es, ep, k _ _ (.inl rfl) e, c⟩
  | dT kvs =>
    obtain ⟨z, y, xs, r, ob, es, ep, e, c⟩ := x
    exact ⟨z, y, xs, Paired.mapP r fun p q z => ⟨z.1, ht _ _ z.2.1, z.2.2⟩, ob, es, ep, k _ _ (.inl rfl) e, c⟩
  | set S n => obtain ⟨ob, es, ep, t, e, c⟩ := x; exact ⟨ob, es, ep, t, k _ _ (.inl rfl) e, c⟩
  | ins C dx fs =>
    obtain ⟨d, z, ne, e, mA, ⟨od, es, ep, e2, c⟩, r⟩ := x
    exact ⟨ho _ d, z, ne, k _ _ (.inl rfl) e, mA, ⟨od, es, ep, k _ _ (.inr d) e2, c⟩, r⟩
  | own y => obtain ⟨ob, e⟩ := x; exact ⟨ob, k _ _ (.inl rfl) e⟩
  | xd fs => obtain ⟨mA, ⟨od, es, ep, e, c⟩, r⟩ := x; exact ⟨mA, ⟨od, es, ep, k _ _ (.inl rfl) e, c⟩, r⟩
  | rng lo hi => obtain ⟨t, u, v, e⟩ := x; exact ⟨t, u, v, k _ _ (.inl rfl) e⟩
  | frz ob u ih => obtain ⟨e, q⟩ := x; exact ⟨k _ _ (.inl rfl) e, ih q⟩
  | tbl ps =>
    have e : h.get? a = some { cls := .none, data := .fields ps } := x
    show h'.get? a = some { cls := .none, data := .fields ps }
    exact k a _ (.inl rfl) e
  | met f y =>
    have e : h.get? a = some (PySem.W.methodObj (.ref f) (.ref y)) := x
    show h'.get? a = some (PySem.W.methodObj (.ref f) (.ref y))
    exact k a _ (.inl rfl) e
  | ext φ => obtain ⟨p, ⟨o, e⟩, st⟩ := x; exact ⟨st _ _ p fun o q => k _ _ (.inl rfl) q, ⟨o, k _ _ (.inl rfl) e⟩, st⟩
theorem HOk.lt (x : HOk P w H h) (e : H a = some o) : a < h.objs.size := (x a o e).lt
theorem HOk.fresh (x : HOk P w H h) (e : h.objs.size ≤ a) : H a = none := by
  cases q : H a with
  | none => rfl
  | some u => exact absurd (Nat.lt_of_lt_of_le (x.lt q) e) (Nat.lt_irrefl _)
theorem HOk.kept (x : HOk P w H h) (k : ∀ b u, h.get? b = some u → h'.get? b = some u) : HOk P w H h' := fun a o e =>
  (x a o e).stay (fun b u _ q => k b u q) (fun _ q => q) fun _ _ q => q
theorem HOk.laid (x : HOk P w H h) (k : ∀ b u, h.get? b = some u → h'.get? b = some u) (hp : h.objs.size ≤ a) (new : ObjOk P w (upd H a o) h' a o) : HOk P w (upd H a o) h' := fun b u e => by
  have hn := x.fresh hp
  by_cases hb : b = a
  · subst hb; rw [upd_same] at e; cases e; exact new
  · rw [upd_ne hb] at e
    exact (x b u e).stay (fun c v _ q => k c v q) (fun c q => by rw [upd_ne (ne_of_none q hn)]; exact q) fun c xs q => by rw [upd_ne (ne_of_none q hn)]; exact q
end
def Rd (H : Hp) (a : Addr) (u : HO) : Prop := H a = some u ∨ ∃ o, H a = some (.frz o u)
theorem Rd.of {H : Hp} {a : Addr} {u : HO} (h : H a = some u) : Rd H a u := .inl h
theorem Rd.ok {P : Program} {w : World} {H : Hp} {h : Heap} {a : Addr} {u : HO} (r : Rd H a u) (x : HOk P w H h) : ObjOk P w H h a u := by
  rcases r with r | ⟨o, r⟩
  · exact x a u r
  · obtain ⟨_, q⟩ := x a _ r
    exact q
def Mut : Option HO → Prop
  | some (.lst _) => True
  | some (.dK _) => True
  | some (.dT _) => True
  | some (.set _ _) => True
  | some (.ins _ _ _) => True
  | some (.ext _) => True
  | _ => False
section
variable {P : Program} {w : World} {H : Hp} {h h' : Heap} {x e : Addr} {o' : HO}
theorem HOk.write (ok : HOk P w H h) (mu : Mut (H x)) (he : e = x ∨ H e = some (.own x)) (k : ∀ b u, b ≠ e → h.get? b = some u → h'.get? b = some u) (heo : ∃ u, h'.get? e = some u)
    (new : ObjOk P w (upd H x o') h' x o') : HOk P w (upd H x o') h' := fun b u q => by
  have nown : ∀ c y, H c = some (.own y) → c ≠ x := fun c y r z => by subst z; rw [r] at mu; exact mu
  have ntup : ∀ c xs, H c = some (.tup xs) → c ≠ x := fun c xs r z => by subst z; rw [r] at mu; exact mu
  by_cases hb : b = x
  · subst hb; rw [upd_same] at q; cases q; exact new
  · rw [upd_ne hb] at q
    by_cases hbe : b = e
    · have q' : H b = some (.own x) := by
        rcases he with z | z
        · exact absurd (hbe.trans z) hb
        · rw [hbe]; exact z
      rw [q] at q'; cases q'
      obtain ⟨v, hv⟩ := heo
      exact ⟨v, by rw [hbe]; exact hv⟩
    · refine (ok b u q).stay (fun c v hc r => k c v ?_ r) (fun c r => by rw [upd_ne (nown c b r)]; exact r) fun c xs r => by rw [upd_ne (ntup c xs r)]; exact r
      rcases hc with rfl | hc
      · exact hbe
      · rintro rfl
        rcases he with z | z
        · exact nown c b hc z
        · rw [hc] at z; cases z; exact hb rfl
end
structure Un (fs ex : List Addr) (H H' : Hp) (h h' : Heap) : Prop where
  keep : ∀ b o, h.get? b = some o → H b = none → b ∉ fs → b ∉ ex → h'.get? b = some o
  slot : ∀ b o, h.get? b = some o → H b = none → b ∈ fs → b ∉ ex → ∃ sl, h'.get? b = some { o with slots := sl }
  free : ∀ b o, h.get? b = some o → H b = none → b ∉ ex → H' b = none
  there : ∀ b o, h.get? b = some o → b ∉ ex → ∃ o', h'.get? b = some o'
  tups : ∀ b xs, H b = some (.tup xs) → H' b = some (.tup xs)
  frzs : ∀ b o u, H b = some (.frz o u) → H' b = some (.frz o u)
  tbls : ∀ b ps, H b = some (.tbl ps) → ∃ more, H' b = some (.tbl (ps ++ more))
section
variable {fs fs' ex ex' : List Addr} {H H1 H2 : Hp} {h h1 h2 h' : Heap} {a x e : Addr} {o : HO}
theorem Un.any (u : Un fs ex H H1 h h1) {b : Addr} {ob : Obj} (q : h.get? b = some ob) (n : H b = none) (hx : b ∉ ex) : ∃ sl, h1.get? b = some { ob with slots := sl } := by
  by_cases hb : b ∈ fs
  · exact u.slot b ob q n hb hx
  · exact ⟨ob.slots, u.keep b ob q n hb hx⟩
theorem Un.trans (a : Un fs ex H H1 h h1) (b : Un fs ex H1 H2 h1 h2) : Un fs ex H H2 h h2 where
  keep := fun c ob q n hc hx => b.keep c ob (a.keep c ob q n hc hx) (a.free c ob q n hx) hc hx
  slot := fun c ob q n hc hx => by
    obtain ⟨sl, e1⟩ := a.slot c ob q n hc hx
    obtain ⟨sl', e2⟩ := b.slot c _ e1 (a.free c ob q n hx) hc hx
    exact ⟨sl', e2⟩
  free := fun c ob q n hx => by
    obtain ⟨o', e1⟩ := a.there c ob q hx
    exact b.free c o' e1 (a.free c ob q n hx) hx
  there := fun c ob q hx => by
    obtain ⟨o', e1⟩ := a.there c ob q hx
    exact b.there c o' e1 hx
  tups := fun c xs q => b.tups c xs (a.tups c xs q)
  frzs := fun c ob xs q => b.frzs c ob xs (a.frzs c ob xs q)
  tbls := fun c ps q => by
    obtain ⟨m1, e1⟩ := a.tbls c ps q
    obtain ⟨m2, e2⟩ := b.tbls c _ e1
    exact ⟨m1 ++ m2, by rw [e2, Array.append_assoc]⟩
theorem Un.kept (k : ∀ b u, h.get? b = some u → h'.get? b = some u) : Un fs ex H H h h' :=
  ⟨fun b ob q _ _ _ => k b ob q, fun b ob q _ _ _ => ⟨ob.slots, k b ob q⟩, fun _ _ _ n _ => n, fun b ob q _ => ⟨ob, k b ob q⟩, fun _ _ q => q, fun _ _ _ q => q, fun _ ps q => ⟨#[], by rw [q]; simp⟩⟩
theorem Un.refl : Un fs ex H H h h := Un.kept fun _ _ q => q
theorem Un.laid (k : ∀ b u, h.get? b = some u → h'.get? b = some u) (hp : h.objs.size ≤ a) (hn : H a = none) : Un fs ex H (upd H a o) h h' where
  keep := fun b u q _ _ _ => k b u q
  slot := fun b u q _ _ _ => ⟨u.slots, k b u q⟩
  free := fun b u q n _ => by rw [upd_ne (Nat.ne_of_lt (Nat.lt_of_lt_of_le (Heap.lt_size q) hp))]; exact n
  there := fun b u q _ => ⟨u, k b u q⟩
  tups := fun b xs q => by rw [upd_ne (ne_of_none q hn)]; exact q
  frzs := fun b u xs q => by rw [upd_ne (ne_of_none q hn)]; exact q
  tbls := fun b ps q => ⟨#[], by rw [upd_ne (ne_of_none q hn), q]; simp⟩
theorem Un.write (mu : Mut (H x)) (he : e = x ∨ H e = some (.own x)) (k : ∀ b u, b ≠ e → h.get? b = some u → h'.get? b = some u) (heo : ∃ u, h'.get? e = some u) : Un fs ex H (upd H x o) h h' := by
  have hx : ∀ b, H b = none → b ≠ x := fun b n z => by subst z; rw [n] at mu; exact mu
  have hb : ∀ b, H b = none → b ≠ e := fun b n z => by
    subst z
    rcases he with r | r
    · exact hx b n r
    · rw [n] at r; cases r
  have hm : ∀ b u, H b = some u → ¬ Mut (some u) → b ≠ x := fun b u q nm z => by subst z; rw [q] at mu; exact nm mu
  refine ⟨fun b u q n _ _ => k b u (hb b n) q, fun b u q n _ _ => ⟨u.slots, k b u (hb b n) q⟩, fun b u q n _ => by rw [upd_ne (hx b n)]; exact n, fun b u q _ => ?_,
    fun b xs q => by rw [upd_ne (hm b _ q fun z => z)]; exact q, fun b u xs q => by rw [upd_ne (hm b _ q fun z => z)]; exact q, fun b ps q => ⟨#[], by rw [upd_ne (hm b _ q fun z => z), q]; simp⟩⟩
  by_cases hbe : b = e
  · subst hbe; exact heo
  · exact ⟨u, k b u hbe q⟩
theorem Un.mono (u : Un fs ex H H1 h h1) (hs : ∀ b ∈ fs, b ∈ fs') (hx : ∀ b ∈ ex, b ∈ ex') : Un fs' ex' H H1 h h1 :=
  ⟨fun b ob q n hb he => u.keep b ob q n (fun z => hb (hs b z)) fun z => he (hx b z), fun _ _ q n _ he => u.any q n fun z => he (hx _ z), fun b ob q n he => u.free b ob q n fun z => he (hx b z), fun b ob q he => u.there b ob q fun z => he (hx b z), u.tups, u.frzs, u.tbls⟩
end
def trk (h : Heap) (H : Hp) : List Addr := (List.range h.objs.size).filter fun a => (H a).isSome
def hidT (h : Heap) (H : Hp) : Heap := PySem.W.hideAll h (trk h H)
theorem hidT_size (h : Heap) (H : Hp) : (hidT h H).objs.size = h.objs.size := PySem.W.hideAll_size _ _
theorem hidT_get {h : Heap} {H : Hp} {b : Addr} {o : Obj} (e : h.get? b = some o) (n : H b = none) : (hidT h H).get? b = some o :=
  PySem.W.hideAll_get _ e fun hm => by
    have q : (H b).isSome = true := (List.mem_filter.mp hm).2
    rw [n] at q; simp at q
theorem of_hidT {h : Heap} {H : Hp} {b : Addr} {o : Obj} (e : (hidT h H).get? b = some o) : h.get? b = some o ∧ H b = none := by
  have e' : h.get? b = some o := PySem.W.of_hideAll (trk h H) e
  refine ⟨e', ?_⟩
  cases q : H b with
  | none => rfl
  | some x =>
    have hm : b ∈ trk h H := List.mem_filter.mpr ⟨List.mem_range.mpr (Heap.lt_size e'), by simp [q]⟩
    have z : (hidT h H).get? b = none := PySem.W.hideAll_none (trk h H) hm
    rw [z] at e; cases e
def allNews (g h : Heap) (L : Addr) : List (Addr × Obj) := (List.range h.objs.size).filterMap fun a => if a = L ∨ (g.get? a).isSome = true then none else (h.get? a).map fun o => (a, o)
def rest (g h : Heap) (L d : Addr) : List (Addr × Obj) := (allNews g h L).filter fun p => decide (p.1 ≠ d)
end L2
namespace L2
open PySem PySem.Spec PyProof.Rows
structure Mod (K : PySem.W.Frag) (mg : Str → Option Value) (base : Heap) : Prop where
  kin : K.In base
  glob : base.Ns mainGlobals mg
  blt : ∃ mb, base.Ns builtinsNs mb ∧ ∀ x : Str, x ≠ "__name__" → mb x = bootBuiltins x
  nolimit : base.NoLimit
structure Cx where
  prog : Program
  w : World
  K : PySem.W.Frag
  mg : Str → Option Value
  base : Heap
  A : Around
  N : List Str
  s₀ : Shared
  H₀ : Hp
  env : Env
  outer : List Env
  stack : List Env
  ex : List Addr
  fn : Str → Bool
  calm : Bool
  pn : List (Addr × Obj)
  xe : Value → Shared → Prop
def frs (l : List Env) : List Addr := l.filterMap (·.frame)
abbrev Cx.fs (X : Cx) : List Addr := frs X.outer
def Vis (sc : Scope) (x : Str) : Prop := sc.names.lookup x = some .local ∨ sc.names.lookup x = some .cell ∨ sc.names.lookup x = some .free
def Loc (sc : Scope) (x : Str) : Prop := sc.names.lookup x = some .local ∨ sc.names.lookup x = some .cell
def Look (env : Env) (h : Heap) (m : Str → Option Value) (x : Str) (u : Value) : Prop :=
  (env.kindOf x = some .local ∧ m x = some u) ∨ ((env.kindOf x = some .cell ∨ env.kindOf x = some .free) ∧ ∃ c, env.cells.lookup x = some c ∧ h.IsCell c (some u))
structure Cx.Ok (X : Cx) : Prop where
  mod : Mod X.K X.mg X.base
  kind : X.env.scope.kind = .function
  glob : X.env.globals = mainGlobals
  blt : X.env.builtins = builtinsNs
  above : X.s₀.heap.objs.size ≤ X.env.locals
  inj : ∀ x y c, X.env.cells.lookup x = some c → X.env.cells.lookup y = some c → x = y
  has : ∀ x, (X.env.kindOf x = some .cell ∨ X.env.kindOf x = some .free) → ∃ c, X.env.cells.lookup x = some c
  cab : ∀ x c, X.fn x = true → X.env.cells.lookup x = some c → X.s₀.heap.objs.size ≤ c
  hd : X.calm = true → X.A.handled = none
  frames : X.A.frames = some X.stack
  stk : X.stack = X.outer ∨ (X.stack = X.env :: X.outer ∧ X.env.frame = some X.env.locals)
  exf : ∀ b ∈ X.ex, b ≠ X.env.locals ∧ ∀ x c, X.env.cells.lookup x = some c → c ≠ b
  bs : ∀ b o, X.base.get? b = some o → X.s₀.heap.get? b = some o ∧ X.H₀ b = none
  bsz : X.base.objs.size ≤ X.s₀.heap.objs.size
  noex : ∀ b o, X.base.get? b = some o → b ∉ X.ex
  exfs : ∀ b ∈ X.ex, b ∉ X.fs
  funs : X.s₀.heap.FunFrames X.base X.outer
  frf : ∀ b ∈ X.fs, X.H₀ b = none
structure Inv (X : Cx) (pins : List (Addr × Obj)) (σ : List (Option V)) (H : Hp) (s : Shared) : Prop where
  ok : X.Ok
  os : s.os = X.s₀.os
  bare : AllBare s.gens
  base : Un X.fs X.ex X.H₀ H X.s₀.heap s.heap
  loc : ∃ m, s.heap.Ns X.env.locals m ∧ ∀ (i : Nat) (x : Str) (v : V), X.N[i]? = some x → σ[i]? = some (some v) → Vis X.env.scope x → ∃ u, RelV v u ∧ Look X.env s.heap m x u
  cell : ∀ x c, X.env.cells.lookup x = some c → ∃ v, s.heap.IsCell c v
  free : H X.env.locals = none
  freeC : ∀ x c, X.env.cells.lookup x = some c → H c = none
  pin : ∀ p ∈ X.pn ++ pins, s.heap.get? p.1 = some p.2 ∧ H p.1 = none ∧ p.1 ≠ X.env.locals ∧ p.1 ∉ X.fs ∧ ∀ v, p.2.data ≠ .cell v
  hok : HOk X.prog X.w H s.heap
  len : σ.length = X.N.length
section
variable {X : Cx} {pins : List (Addr × Obj)} {σ : List (Option V)} {H H' : Hp} {s : Shared} {h' : Heap}
theorem Cx.Ok.nofr (ok : X.Ok) {b : Addr} {o : Obj} (e : X.base.get? b = some o) : b ∉ X.fs := fun hb => by
  have := (ok.funs.mem hb).1
  rw [e] at this; cases this
theorem Inv.bs (I : Inv X pins σ H s) : ∀ b o, X.base.get? b = some o → s.heap.get? b = some o ∧ H b = none := fun b o e =>
  ⟨I.base.keep b o (I.ok.bs b o e).1 (I.ok.bs b o e).2 (I.ok.nofr e) (I.ok.noex b o e), I.base.free b o (I.ok.bs b o e).1 (I.ok.bs b o e).2 (I.ok.noex b o e)⟩
theorem Inv.bk (I : Inv X pins σ H s) : ∀ b o, X.base.get? b = some o → s.heap.get? b = some o := fun b o e => (I.bs b o e).1
theorem Inv.mod (I : Inv X pins σ H s) : Mod X.K X.mg X.base := I.ok.mod
theorem Inv.kIn (I : Inv X pins σ H s) : X.K.In s.heap := I.ok.mod.kin.keeps I.bk
theorem Inv.nolimit (I : Inv X pins σ H s) : s.heap.NoLimit := I.ok.mod.nolimit.keeps I.bk
theorem Inv.fr (I : Inv X pins σ H s) : ∃ m, Fr X.base X.env.locals s.heap m :=
  let ⟨m, hn, _⟩ := I.loc
  ⟨m, hn, I.bk, Nat.le_trans I.ok.bsz I.ok.above⟩
theorem Inv.lt (I : Inv X pins σ H s) : X.env.locals < s.heap.objs.size := let ⟨_, hn, _⟩ := I.loc; hn.lt
theorem Inv.sz (I : Inv X pins σ H s) : X.s₀.heap.objs.size ≤ s.heap.objs.size := Nat.le_trans I.ok.above (Nat.le_of_lt I.lt)
theorem Inv.nofs (I : Inv X pins σ H s) {a : Addr} (h : s.heap.objs.size ≤ a) : a ∉ X.fs := fun hb => by
  obtain ⟨_, o, ho, _⟩ := I.ok.funs.mem hb
  exact absurd (Nat.lt_of_lt_of_le (Heap.lt_size ho) (Nat.le_trans I.sz h)) (Nat.lt_irrefl _)
theorem Inv.cne (I : Inv X pins σ H s) : ∀ x c, X.env.cells.lookup x = some c → c ≠ X.env.locals := fun x c e z => by
  obtain ⟨v, o, ho, hd⟩ := I.cell x c e
  obtain ⟨m, ⟨o', es, ep, ho', hd', _⟩, _⟩ := I.loc
  rw [z, ho'] at ho; cases ho; rw [hd'] at hd; cases hd
theorem Inv.funs (I : Inv X pins σ H s) : s.heap.FunFrames X.base X.outer := by
  have all : ∀ (l : List Env), (∀ b ∈ frs l, b ∈ X.fs) → X.s₀.heap.FunFrames X.base l → s.heap.FunFrames X.base l := by
    intro l
    induction l with
    | nil => intro _ _; trivial
    | cons env r ih =>
      intro hs hl
      obtain ⟨hk, ⟨L, o, hf, hn, ho, hd⟩, hr⟩ := hl
      have hL : L ∈ X.fs := hs L (by unfold frs; rw [List.filterMap_cons, hf]; exact List.mem_cons_self)
      obtain ⟨sl, e⟩ := I.base.slot L o ho (I.ok.frf L hL) hL fun z => I.ok.exfs L z hL
      exact ⟨hk, ⟨L, _, hf, hn, e, hd⟩, ih (fun b hb => hs b (by unfold frs; rw [List.filterMap_cons, hf]; exact List.mem_cons_of_mem _ hb)) hr⟩
  exact all X.outer (fun _ hb => hb) I.ok.funs
theorem Inv.stack (I : Inv X pins σ H s) : s.heap.FunFrames X.base X.stack := by
  rcases I.ok.stk with e | ⟨e, hf⟩
  · rw [e]; exact I.funs
  · rw [e]
    obtain ⟨m, hn, _⟩ := I.loc
    refine .cons (by rw [I.ok.kind]; decide) hf hn ?_ I.funs
    exact Heap.get?_none_of_le (Nat.le_trans I.ok.bsz I.ok.above)
theorem Inv.stkSub (I : Inv X pins σ H s) : ∀ b ∈ frs X.stack, b ∈ X.env.locals :: X.fs := fun b hb => by
  rcases I.ok.stk with e | ⟨e, hf⟩
  · rw [e] at hb; exact List.mem_cons_of_mem _ hb
  · rw [e] at hb
    unfold frs at hb
    rw [List.filterMap_cons, hf] at hb
    exact hb
theorem Inv.stkFree (I : Inv X pins σ H s) : ∀ b ∈ frs X.stack, H b = none := fun b hb => by
  rcases List.mem_cons.mp (I.stkSub b hb) with e | hb
  · rw [e]; exact I.free
  · obtain ⟨_, o, ho, _⟩ := I.ok.funs.mem hb
    exact I.base.free b o ho (I.ok.frf b hb) fun z => I.ok.exfs b z hb
theorem Inv.step {g' : Array GenState} {t' : Nat} {d' : Drawn} {ch : List Addr} (I : Inv X pins σ H s)
    (hch : ∀ b ∈ ch, (b ∈ X.ex ∨ X.s₀.heap.objs.size ≤ b) ∧ b ≠ X.env.locals ∧ (∀ x c, X.env.cells.lookup x = some c → c ≠ b) ∧ ∀ p ∈ X.pn ++ pins, p.1 ≠ b)
    (keep : ∀ b o, b ≠ X.env.locals → b ∉ X.fs → b ∉ ch → s.heap.get? b = some o → H b = none → h'.get? b = some o)
    (slot : ∀ b o, b ≠ X.env.locals → b ∈ X.fs → b ∉ ch → s.heap.get? b = some o → H b = none → ∃ sl, h'.get? b = some { o with slots := sl }) (free : ∀ b o, b ∉ ch → s.heap.get? b = some o → H b = none → H' b = none)
    (there : ∀ b o, b ∉ ch → s.heap.get? b = some o → ∃ o', h'.get? b = some o')
    (tups : ∀ b xs, H b = some (.tup xs) → H' b = some (.tup xs)) (frzs : ∀ b o u, H b = some (.frz o u) → H' b = some (.frz o u)) (tbls : ∀ b ps, H b = some (.tbl ps) → ∃ more, H' b = some (.tbl (ps ++ more)))
    (ns : ∀ m, s.heap.Ns X.env.locals m → h'.Ns X.env.locals m) (hok : HOk X.prog X.w H' h') (hg : AllBare g') :
    Inv X pins σ H' { s with heap := h', gens := g', drawn := d', toks := t' } := by
  have neL : ∀ b o, X.s₀.heap.get? b = some o → b ≠ X.env.locals := fun b o e => Nat.ne_of_lt (Nat.lt_of_lt_of_le (Heap.lt_size e) I.ok.above)
  have neC : ∀ b o, X.s₀.heap.get? b = some o → b ∉ X.ex → b ∉ ch := fun b o e hx hb => by
    rcases (hch b hb).1 with z | z
    · exact hx z
    · exact absurd (Nat.lt_of_lt_of_le (Heap.lt_size e) z) (Nat.lt_irrefl _)
  have cellK : ∀ x c, X.env.cells.lookup x = some c → ∀ v, s.heap.IsCell c v → h'.IsCell c v := fun x c e v ⟨o, ho, hd⟩ => by
    have nch : c ∉ ch := fun z => (hch c z).2.2.1 x c e rfl
    by_cases hc : c ∈ X.fs
    · obtain ⟨sl, q⟩ := slot c o (I.cne x c e) hc nch ho (I.freeC x c e)
      exact ⟨_, q, hd⟩
    · exact ⟨o, keep c o (I.cne x c e) hc nch ho (I.freeC x c e), hd⟩
  refine ⟨I.ok, I.os, hg, ⟨fun b o e n hb hx => ?_, fun b o e n hb hx => ?_, fun b o e n hx => ?_, fun b o e hx => ?_, fun b xs e => tups b xs (I.base.tups b xs e), fun b o xs e => frzs b o xs (I.base.frzs b o xs e), fun b ps e => ?_⟩, ?_, fun x c e => ?_, ?_, fun x c e => ?_, fun p hp => ?_, hok, I.len⟩
  · exact keep b o (neL b o e) hb (neC b o e hx) (I.base.keep b o e n hb hx) (I.base.free b o e n hx)
  · obtain ⟨sl, e1⟩ := I.base.slot b o e n hb hx
    obtain ⟨sl', e2⟩ := slot b _ (neL b o e) hb (neC b o e hx) e1 (I.base.free b o e n hx)
    exact ⟨sl', e2⟩
  · obtain ⟨o', e1⟩ := I.base.there b o e hx
    exact free b o' (neC b o e hx) e1 (I.base.free b o e n hx)
  · obtain ⟨o', e1⟩ := I.base.there b o e hx
    exact there b o' (neC b o e hx) e1
  · obtain ⟨m1, e1⟩ := I.base.tbls b ps e
    obtain ⟨m2, e2⟩ := tbls b _ e1
    exact ⟨m1 ++ m2, by rw [e2, Array.append_assoc]⟩
  · obtain ⟨m, hn, hl⟩ := I.loc
    refine ⟨m, ns m hn, fun i x v e1 e2 e3 => ?_⟩
    obtain ⟨u, r, l⟩ := hl i x v e1 e2 e3
    refine ⟨u, r, ?_⟩
    rcases l with l | ⟨k, c, e, z⟩
    · exact .inl l
    · exact .inr ⟨k, c, e, cellK x c e _ z⟩
  · obtain ⟨v, z⟩ := I.cell x c e
    exact ⟨v, cellK x c e v z⟩
  · obtain ⟨m, ⟨o, _, _, ho, _⟩, _⟩ := I.loc
    exact free _ o (fun z => (hch _ z).2.1 rfl) ho I.free
  · obtain ⟨v, o, ho, hd⟩ := I.cell x c e
    exact free c o (fun z => (hch c z).2.2.1 x c e rfl) ho (I.freeC x c e)
  · obtain ⟨e, n, ne, nf, d⟩ := I.pin p hp
    have nch : p.1 ∉ ch := fun z => (hch p.1 z).2.2.2 p hp rfl
    exact ⟨keep p.1 p.2 ne nf nch e n, free p.1 p.2 nch e n, ne, nf, d⟩
theorem Inv.un {t' : Nat} (I : Inv X pins σ H s) (u : Un X.fs [] H H' s.heap h') (hok : HOk X.prog X.w H' h') : Inv X pins σ H' { s with heap := h', toks := t' } := by
  obtain ⟨m, ⟨o, es, ep, ho, r⟩, _⟩ := id I.loc
  obtain ⟨sl, hL⟩ := u.any ho I.free (by simp)
  exact I.step (g' := s.gens) (d' := s.drawn) (ch := []) (fun _ z => nomatch z) (fun b o _ hb _ e n => u.keep b o e n hb (by simp)) (fun b o _ hb _ e n => u.slot b o e n hb (by simp)) (fun b o _ e n => u.free b o e n (by simp)) (fun b o _ e => u.there b o e (by simp)) u.tups u.frzs u.tbls (fun m' hm => by
    obtain ⟨o', es', ep', ho', r'⟩ := hm
    rw [ho] at ho'; cases ho'
    exact ⟨_, es', ep', hL, r'⟩) hok I.bare
theorem Inv.call {g' : Array GenState} {t' : Nat} {d' : Drawn} {ch : List Addr} (I : Inv X pins σ H s) (u : Un (frs X.stack) ch H H' s.heap h') (hok : HOk X.prog X.w H' h') (hg : AllBare g')
    (hch : ∀ b ∈ ch, (b ∈ X.ex ∨ X.s₀.heap.objs.size ≤ b) ∧ b ≠ X.env.locals ∧ (∀ x c, X.env.cells.lookup x = some c → c ≠ b) ∧ ∀ p ∈ X.pn ++ pins, p.1 ≠ b) :
    Inv X pins σ H' { s with heap := h', gens := g', drawn := d', toks := t' } := by
  obtain ⟨m, ⟨o, es, ep, ho, r⟩, _⟩ := id I.loc
  obtain ⟨sl, hL⟩ := u.any ho I.free fun z => (hch _ z).2.1 rfl
  exact I.step (ch := ch) hch (fun b o hL hb hc e n => u.keep b o e n (fun z => (List.mem_cons.mp (I.stkSub b z)).elim hL hb) hc) (fun b o _ _ hc e n => u.any e n hc) (fun b o hc e n => u.free b o e n hc) (fun b o hc e => u.there b o e hc) u.tups u.frzs u.tbls (fun m' hm => by
    obtain ⟨o', es', ep', ho', r'⟩ := hm
    rw [ho] at ho'; cases ho'
    exact ⟨_, es', ep', hL, r'⟩) hok hg
theorem Inv.turned {t' : Nat} {it : Addr} (I : Inv X pins σ H s) (k : ∀ b o, b ≠ it → s.heap.get? b = some o → h'.get? b = some o) (hn : H it = none) (hL : it ≠ X.env.locals)
    (h1 : it ∈ X.ex ∨ X.s₀.heap.objs.size ≤ it) (h2 : ∀ x c, X.env.cells.lookup x = some c → c ≠ it) (h3 : ∀ p ∈ X.pn ++ pins, p.1 ≠ it) : Inv X pins σ H { s with heap := h', toks := t' } := by
  have nit : ∀ b u, H b = some u → b ≠ it := fun b u e z => by rw [z, hn] at e; cases e
  refine I.step (g' := s.gens) (d' := s.drawn) (ch := [it]) (fun b hb => ?_) (fun b o _ _ hc e _ => k b o (fun z => hc (by simp [z])) e) (fun b o _ _ hc e _ => ⟨o.slots, k b o (fun z => hc (by simp [z])) e⟩) (fun _ _ _ _ n => n)
    (fun b o hc e => ⟨o, k b o (fun z => hc (by simp [z])) e⟩) (fun _ _ e => e) (fun _ _ _ e => e) (fun b ps e => ⟨#[], by rw [e]; simp⟩) (fun m hm => ?_) (fun b u e => ?_) I.bare
  · have e : b = it := by simpa using hb
    subst e
    exact ⟨h1, hL, h2, h3⟩
  · obtain ⟨o, es, ep, ho, r⟩ := hm
    exact ⟨o, es, ep, k _ o (Ne.symm hL) ho, r⟩
  · refine (I.hok b u e).stay (fun c v hc q => k c v ?_ q) (fun _ q => q) fun _ _ q => q
    rcases hc with z | z
    · rw [z]; exact nit b u e
    · exact nit c _ z
theorem Inv.tok (I : Inv X pins σ H s) (t : Nat) : Inv X pins σ H { s with toks := t } := I.un (h' := s.heap) (t' := t) Un.refl I.hok
theorem Inv.kept {t' : Nat} (I : Inv X pins σ H s) (k : ∀ b u, s.heap.get? b = some u → h'.get? b = some u) : Inv X pins σ H { s with heap := h', toks := t' } := I.un (Un.kept k) (I.hok.kept k)
theorem Inv.laid {a : Addr} {o : HO} {t' : Nat} (I : Inv X pins σ H s) (k : ∀ b u, s.heap.get? b = some u → h'.get? b = some u) (hp : s.heap.objs.size ≤ a) (new : ObjOk X.prog X.w (upd H a o) h' a o) :
    Inv X pins σ (upd H a o) { s with heap := h', toks := t' } := I.un (Un.laid k hp (I.hok.fresh hp)) (I.hok.laid k hp new)
theorem Inv.write {x e : Addr} {o : HO} {t' : Nat} (I : Inv X pins σ H s) (mu : Mut (H x)) (he : e = x ∨ H e = some (.own x)) (k : ∀ b u, b ≠ e → s.heap.get? b = some u → h'.get? b = some u) (heo : ∃ u, h'.get? e = some u)
    (new : ObjOk X.prog X.w (upd H x o) h' x o) : Inv X pins σ (upd H x o) { s with heap := h', toks := t' } := I.un (Un.write mu he k heo) (I.hok.write mu he k heo new)
theorem Inv.pins_of {pins' : List (Addr × Obj)} (I : Inv X pins σ H s) (h : ∀ p ∈ pins', s.heap.get? p.1 = some p.2 ∧ H p.1 = none ∧ p.1 ≠ X.env.locals ∧ p.1 ∉ X.fs ∧ ∀ v, p.2.data ≠ .cell v) : Inv X pins' σ H s :=
  ⟨I.ok, I.os, I.bare, I.base, I.loc, I.cell, I.free, I.freeC, fun p hp => (List.mem_append.mp hp).elim (fun z => I.pin p (List.mem_append_left _ z)) (h p), I.hok, I.len⟩
theorem nodup_ix {N : List Str} (hN : N.Nodup) {i j : Nat} {x : Str} (a : N[i]? = some x) (b : N[j]? = some x) : i = j := by
  obtain ⟨h1, e1⟩ := List.getElem?_eq_some_iff.mp a
  obtain ⟨h2, e2⟩ := List.getElem?_eq_some_iff.mp b
  exact (List.getElem_inj hN).mp (e1.trans e2.symm)
theorem store_ok2 {M : Model} {A : Around} {E : Value → Shared → Prop} {i : Nat} {x : Str} {v : V} {u : Value} {Q : Unit → Shared → Prop} (I : Inv X pins σ H s) (hN : X.N.Nodup) (hi : X.N[i]? = some x) (hx : Loc X.env.scope x) (r : RelV v u)
    (h : ∀ s', Inv X pins (σ.set i (some v)) H s' → (∃ a, Heap.SameBut a s.heap s'.heap ∧ (a = X.env.locals ∨ X.env.cells.lookup x = some a)) → Q () s') (hf : X.fn x = true ∨ X.env.scope.names.lookup x = some .local := by first | exact .inl rfl | exact .inr rfl | assumption) : wpAny M A (storeName X.env x u) Q E s := by
  obtain ⟨m, hn, hl⟩ := id I.loc
  have hcls : (X.env.scope.kind == .class || (X.env.scope.kind == .module && X.env.locals != X.env.globals)) = false := by rw [I.ok.kind]; rfl
  have hiσ : i < σ.length := by rw [I.len]; exact (List.getElem?_eq_some_iff.mp hi).1
  have cne := I.cne
  have tracked : ∀ {a : Addr} {h' : Heap}, (∃ o, s.heap.get? a = some o ∧ H a = none) → Heap.SameBut a s.heap h' → HOk X.prog X.w H h' := fun {a h'} ha hs b ob e => by
    obtain ⟨_, _, hfree⟩ := ha
    refine (I.hok b ob e).stay (fun c w' hc q => (hs.2 c ?_).trans q) (fun _ q => q) fun _ _ q => q
    rintro rfl
    rcases hc with rfl | hc
    · rw [hfree] at e; cases e
    · rw [hfree] at hc; cases hc
  rcases hx with hk | hk
  · refine wpAny_storeName_local hk hn (fun h' hn' hs => ?_) hcls
    obtain ⟨oL, _, _, hoL, _⟩ := id hn
    refine h _ ⟨I.ok, I.os, I.bare, ⟨fun b o e n hb hx => ?_, fun b o e n hb hx => ?_, I.base.free, fun b o e hx => ?_, I.base.tups, I.base.frzs, I.base.tbls⟩, ⟨_, hn', fun j y v' e1 e2 e3 => ?_⟩, fun y c e => ?_, I.free, I.freeC, fun p hp => ?_, tracked ⟨oL, hoL, I.free⟩ hs, by simpa using I.len⟩ ⟨_, hs, .inl rfl⟩
    · exact (hs.2 b (Nat.ne_of_lt (Nat.lt_of_lt_of_le (Heap.lt_size e) I.ok.above))).trans (I.base.keep b o e n hb hx)
    · obtain ⟨sl, e1⟩ := I.base.slot b o e n hb hx
      exact ⟨sl, (hs.2 b (Nat.ne_of_lt (Nat.lt_of_lt_of_le (Heap.lt_size e) I.ok.above))).trans e1⟩
    · obtain ⟨o', e1⟩ := I.base.there b o e hx
      exact ⟨o', (hs.2 b (Nat.ne_of_lt (Nat.lt_of_lt_of_le (Heap.lt_size e) I.ok.above))).trans e1⟩
    · by_cases hj : j = i
      · subst hj
        rw [hi] at e1; cases e1
        rw [List.getElem?_set_self hiσ] at e2
        cases e2
        exact ⟨u, r, .inl ⟨hk, by simp⟩⟩
      · rw [List.getElem?_set_ne (Ne.symm hj)] at e2
        obtain ⟨u', r', q⟩ := hl j y v' e1 e2 e3
        refine ⟨u', r', ?_⟩
        rcases q with ⟨k, e⟩ | ⟨k, c, e, z⟩
        · refine .inl ⟨k, ?_⟩
          have : y ≠ x := fun e => hj (nodup_ix hN e1 (e ▸ hi))
          simp [this, e]
        · exact .inr ⟨k, c, e, z.sameBut hs (cne y c e)⟩
    · obtain ⟨w', z⟩ := I.cell y c e
      exact ⟨w', z.sameBut hs (cne y c e)⟩
    · obtain ⟨e, n, ne, nf, d⟩ := I.pin p hp
      exact ⟨(hs.2 p.1 ne).trans e, n, ne, nf, d⟩
  · have hfn : X.fn x = true := by
      rcases hf with z | z
      · exact z
      · rw [z] at hk; cases hk
    obtain ⟨c, hc⟩ := I.ok.has x (.inl hk)
    obtain ⟨w', z⟩ := I.cell x c hc
    refine wpAny_storeName_cell I.ok.kind hk hc z (fun h' hc' hs => ?_)
    obtain ⟨oc, hoc, hocd⟩ := id z
    refine h { s with heap := h' } ⟨I.ok, I.os, I.bare, ⟨fun b o e n hb hx => ?_, fun b o e n hb hx => ?_, I.base.free, fun b o e hx => ?_, I.base.tups, I.base.frzs, I.base.tbls⟩, ⟨m, hn.sameBut hs (Ne.symm (cne x c hc)), fun j y v' e1 e2 e3 => ?_⟩, fun y c' e => ?_, I.free, I.freeC, fun p hp => ?_, tracked ⟨oc, hoc, I.freeC x c hc⟩ hs, by simpa using I.len⟩ ⟨c, hs, .inr hc⟩
    · exact (hs.2 b (Nat.ne_of_lt (Nat.lt_of_lt_of_le (Heap.lt_size e) (I.ok.cab x c hfn hc)))).trans (I.base.keep b o e n hb hx)
    · obtain ⟨sl, e1⟩ := I.base.slot b o e n hb hx
      exact ⟨sl, (hs.2 b (Nat.ne_of_lt (Nat.lt_of_lt_of_le (Heap.lt_size e) (I.ok.cab x c hfn hc)))).trans e1⟩
    · obtain ⟨o', e1⟩ := I.base.there b o e hx
      exact ⟨o', (hs.2 b (Nat.ne_of_lt (Nat.lt_of_lt_of_le (Heap.lt_size e) (I.ok.cab x c hfn hc)))).trans e1⟩
    · by_cases hj : j = i
      · subst hj
        rw [hi] at e1; cases e1
        rw [List.getElem?_set_self hiσ] at e2
        cases e2
        exact ⟨u, r, .inr ⟨.inl hk, c, hc, hc'⟩⟩
      · rw [List.getElem?_set_ne (Ne.symm hj)] at e2
        obtain ⟨u', r', q⟩ := hl j y v' e1 e2 e3
        refine ⟨u', r', ?_⟩
        rcases q with q | ⟨k, c', e, z'⟩
        · exact .inl q
        · refine .inr ⟨k, c', e, z'.sameBut hs ?_⟩
          rintro rfl
          exact hj (nodup_ix hN e1 (I.ok.inj _ _ _ e hc ▸ hi))
    · by_cases hcc : c' = c
      · subst hcc; exact ⟨_, hc'⟩
      · obtain ⟨w2, z2⟩ := I.cell y c' e
        exact ⟨w2, z2.sameBut hs hcc⟩
    · obtain ⟨e, n, ne, nf, d⟩ := I.pin p hp
      refine ⟨(hs.2 p.1 ?_).trans e, n, ne, nf, d⟩
      intro q
      rw [q, hoc] at e
      have q' : oc = p.2 := Option.some.inj e
      exact d w' (by rw [← q']; exact hocd)
theorem store_ok {M : Model} {A : Around} {E : Value → Shared → Prop} {i : Nat} {x : Str} {v : V} {u : Value} {Q : Unit → Shared → Prop} (I : Inv X pins σ H s) (hN : X.N.Nodup) (hi : X.N[i]? = some x) (hx : Loc X.env.scope x) (r : RelV v u)
    (h : ∀ s', Inv X pins (σ.set i (some v)) H s' → Q () s') (hf : X.fn x = true ∨ X.env.scope.names.lookup x = some .local := by first | exact .inl rfl | exact .inr rfl | assumption) : wpAny M A (storeName X.env x u) Q E s :=
  store_ok2 I hN hi hx r (fun s' I' _ => h s' I') hf
theorem Inv.call' {s' : Shared} {ch : List Addr} (I : Inv X pins σ H s) (ho : s'.os = s.os) (u : Un (frs X.stack) ch H H' s.heap s'.heap) (hok : HOk X.prog X.w H' s'.heap) (hg : AllBare s'.gens)
    (hch : ∀ b ∈ ch, (b ∈ X.ex ∨ X.s₀.heap.objs.size ≤ b) ∧ b ≠ X.env.locals ∧ (∀ x c, X.env.cells.lookup x = some c → c ≠ b) ∧ ∀ p ∈ X.pn ++ pins, p.1 ≠ b) : Inv X pins σ H' s' := by
  obtain ⟨h', g', d', t', o'⟩ := s'
  have e : o' = s.os := ho
  subst e
  exact I.call (g' := g') (t' := t') (d' := d') u hok hg hch
end
abbrev XK := Value → Option Addr → Hp → Prop
abbrev St := List (Option V)
abbrev VK := V → Hp → Prop
abbrev TE := St → Hp → VK → Prop
abbrev TT := St → Hp → (Bool → Hp → Prop) → Prop
abbrev TA := St → Hp → (List V → Hp → Prop) → Prop
structure Ends where
  nx : St → Hp → Prop
  rt : VK
  bk : St → Hp → Prop := fun _ _ => False
  ct : St → Hp → Prop := fun _ _ => False
abbrev TS := Ends → St → Hp → Prop
def EP (X : Cx) (pins : List (Addr × Obj)) (σ : St) (Q : VK) (u : Value) (s' : Shared) : Prop := ∃ v H', Inv X pins σ H' s' ∧ RelV v u ∧ Q v H'
def TP (X : Cx) (pins : List (Addr × Obj)) (σ : St) (Q : Bool → Hp → Prop) (b : Bool) (s' : Shared) : Prop := ∃ H', Inv X pins σ H' s' ∧ Q b H'
def AP (X : Cx) (pins : List (Addr × Obj)) (σ : St) (Q : List V → Hp → Prop) (us : List Value) (s' : Shared) : Prop := ∃ vs H', Inv X pins σ H' s' ∧ Vals vs us ∧ Q vs H'
def SP (X : Cx) (pins : List (Addr × Obj)) (D : Ends) (f : Flow) (s' : Shared) : Prop :=
  match f with
  | .next => ∃ σ' H', Inv X pins σ' H' s' ∧ D.nx σ' H'
  | .brk => ∃ σ' H', Inv X pins σ' H' s' ∧ D.bk σ' H'
  | .cont => ∃ σ' H', Inv X pins σ' H' s' ∧ D.ct σ' H'
  | .ret u => ∃ v σ' H', Inv X pins σ' H' s' ∧ RelV v u ∧ D.rt v H'
def PE (X : Cx) (e : Expr) (t : TE) : Prop :=
  ∀ (pins : List (Addr × Obj)) (s : Shared) (σ : St) (H : Hp) (Q : VK), Inv X pins σ H s → t σ H Q → wpAny (model X.prog X.w) X.A (eval e X.env) (EP X pins σ Q) X.xe s
def PT (X : Cx) (e : Expr) (t : TT) : Prop :=
  ∀ (pins : List (Addr × Obj)) (s : Shared) (σ : St) (H : Hp) (Q : Bool → Hp → Prop), Inv X pins σ H s → t σ H Q → wpAny (model X.prog X.w) X.A (isTrue e X.env (eval e X.env)) (TP X pins σ Q) X.xe s
def PW (X : Cx) (e : Expr) (t : TT) : Prop :=
  ∀ (whole : Sem Value) (pins : List (Addr × Obj)) (s : Shared) (σ : St) (H : Hp) (Q : Bool → Hp → Prop), Inv X pins σ H s → t σ H Q → wpAny (model X.prog X.w) X.A (isTrue e X.env whole) (TP X pins σ Q) X.xe s
theorem PW.pt {X : Cx} {e : Expr} {t : TT} (h : PW X e t) : PT X e t := h _
def PA (X : Cx) (es : List Expr) (t : TA) : Prop :=
  ∀ (pos : Pos) (pins : List (Addr × Obj)) (s : Shared) (σ : St) (H : Hp) (Q : List V → Hp → Prop), Inv X pins σ H s → t σ H Q → wpAny (model X.prog X.w) X.A (spliced (backTo pos (starEach es X.env))) (AP X pins σ Q) X.xe s
def PS (X : Cx) (st : Stmt) (t : TS) : Prop :=
  ∀ (pins : List (Addr × Obj)) (s : Shared) (σ : St) (H : Hp) (D : Ends), Inv X pins σ H s → t D σ H → wpAny (model X.prog X.w) X.A (exec st X.env) (SP X pins D) X.xe s
def PSs (X : Cx) (st : List Stmt) (t : TS) : Prop :=
  ∀ (pins : List (Addr × Obj)) (s : Shared) (σ : St) (H : Hp) (D : Ends), Inv X pins σ H s → t D σ H → wpAny (model X.prog X.w) X.A (execs st X.env) (SP X pins D) X.xe s
theorem thn {α : Type} {t : Sem α} {Q Q' : α → Shared → Prop} {M : Model} {A : Around} {E : Value → Shared → Prop} {s : Shared} (h : wpAny M A t Q E s) (hQ : ∀ a s, Q a s → Q' a s) : wpAny M A t Q' E s := wpAny_mono h hQ fun _ _ x => x
end L2
namespace L2
open PySem PySem.Spec PyProof.Rows
section
variable {X : Cx}
theorem bin {a b : Expr} {ta tb : TE} (ha : PE X a ta) (hb : PE X b tb) {pins : List (Addr × Obj)} {s : Shared} {σ : St} {H : Hp} {R : V → V → Hp → Prop} (I : Inv X pins σ H s) (h : ta σ H fun x H1 => tb σ H1 fun y H2 => R x y H2)
    {α : Type} {Q : α → Shared → Prop} {f : Value → Value → Sem α}
    (hf : ∀ v u s2 x y H2, Inv X pins σ H2 s2 → RelV x v → RelV y u → R x y H2 → wpAny (model X.prog X.w) X.A (f v u) Q X.xe s2) :
    wpAny (model X.prog X.w) X.A (eval a X.env) (fun v s₁ => wpAny (model X.prog X.w) X.A (eval b X.env) (fun u s₂ => wpAny (model X.prog X.w) X.A (f v u) Q X.xe s₂) X.xe s₁) X.xe s := by
  refine thn (ha pins s σ H _ I h) fun v s1 ⟨x, H1, I1, r1, q1⟩ => ?_
  refine thn (hb pins s1 σ H1 _ I1 q1) fun u s2 ⟨y, H2, I2, r2, q2⟩ => ?_
  exact hf v u s2 x y H2 I2 r1 r2 q2
def tVar (i : Nat) : TE := fun σ H Q => ∃ v, σ[i]? = some (some v) ∧ Q v H
def tC (v : V) : TE := fun _ H Q => Q v H
theorem pe_var {i : Nat} {x : Str} {pos : Pos} (hN : X.N[i]? = some x) (hv : Vis X.env.scope x) (hd : (x == ("__debug__" : Str)) = false := by decide) (hcd : (x == ("__classdict__" : Str)) = false := by decide) : PE X (.Name x pos) (tVar i) := by
  intro pins s σ H Q I h
  obtain ⟨v, e, h⟩ := h
  obtain ⟨m, hn, hl⟩ := I.loc
  obtain ⟨u, r, l⟩ := hl i x v hN e hv
  have fin : EP X pins σ Q u s := ⟨v, H, I, r, h⟩
  rcases l with ⟨hk, hm⟩ | ⟨hk, c, hc, hcell⟩
  · exact wpAny_Name (wpAny_loadName_local I.ok.kind hk hn hm fin) hd
  · rcases hk with hk | hk
    · exact wpAny_Name (wpAny_loadName_cell I.ok.kind hk hc hcell fin) hd
    · exact wpAny_Name (wpAny_loadName_free I.ok.kind hk hc hcell fin hcd) hd
theorem pe_int {i j pos} : PE X (.Constant (.int i) j pos) (tC (.int i)) := fun _ _ _ H _ I h => wpAny_Constant_int ⟨.int i, H, I.tok _, ⟨_, rfl⟩, h⟩
theorem pe_bl {b j pos} : PE X (.Constant (.bool b) j pos) (tC (.bl b)) := fun _ _ _ H _ I h => Constant_bool ⟨.bl b, H, I, rfl, h⟩
theorem pe_str {x j pos} : PE X (.Constant (.str x) j pos) (tC (.str x)) := fun _ _ _ H _ I h => Calls.Constant_str ⟨.str x, H, I.tok _, ⟨_, rfl⟩, h⟩
def Gl (X : Cx) (x : Str) : Prop := X.env.kindOf x = some .globalImplicit
theorem ld_glob {E : Value → Shared → Prop} {pins : List (Addr × Obj)} {s : Shared} {σ : St} {H : Hp} {x : Str} {u : Value} {pos : Pos} {Q : Value → Shared → Prop} (I : Inv X pins σ H s) (hg : Gl X x) (hm : X.mg x = some u) (h : Q u s)
    (hd : (x == ("__debug__" : Str)) = false := by decide) : wpAny (model X.prog X.w) X.A (eval (.Name x pos) X.env) Q E s :=
  Calls.Name_function_global I.ok.kind hg (Calls.loadGlobal_global (by rw [I.ok.glob]; exact I.mod.glob.keeps I.bk) hm h) hd
theorem ld_blt {E : Value → Shared → Prop} {pins : List (Addr × Obj)} {s : Shared} {σ : St} {H : Hp} {x : Str} {u : Value} {pos : Pos} {Q : Value → Shared → Prop} (I : Inv X pins σ H s) (hg : Gl X x) (hm : X.mg x = none) (hv : bootBuiltins x = some u) (h : Q u s)
    (hn : x ≠ "__name__" := by decide) (hd : (x == ("__debug__" : Str)) = false := by decide) : wpAny (model X.prog X.w) X.A (eval (.Name x pos) X.env) Q E s := by
  obtain ⟨mb, h1, h2⟩ := I.mod.blt
  exact Calls.Name_function_global I.ok.kind hg (Calls.loadGlobal_builtin (by rw [I.ok.glob]; exact I.mod.glob.keeps I.bk) hm (by rw [I.ok.blt]; exact h1.keeps I.bk) ((h2 x hn).trans hv) h) hd
theorem pe_glob {x : Str} {v : V} {u : Value} {pos : Pos} (hg : Gl X x) (hm : X.mg x = some u) (r : RelV v u) (hd : (x == ("__debug__" : Str)) = false := by decide) : PE X (.Name x pos) (tC v) :=
  fun _ _ _ H _ I h => ld_glob I hg hm ⟨v, H, I, r, h⟩ hd
variable {a b : Expr} {ta tb : TE} {pos : Pos}
def tB (t : TE) : TT := fun σ H Q => t σ H fun x H1 => ∃ c, x = .bl c ∧ Q c H1
theorem pt_val {e : Expr} {t : TE} (h : PE X e t) (he : ∀ whole, isTrue e X.env whole = (do let v ← whole; standAt e.pos; holding [v] (truthy v)) := by intro _; rfl) : PT X e (tB t) := by
  intro pins s σ H Q I hw
  refine isTrue_plain (thn (h pins s σ H _ I hw) fun v s1 ⟨x, H1, I1, r1, q1⟩ => ?_) (he _)
  obtain ⟨d, rfl, q⟩ := q1
  cases r1
  exact wpAny_truthy_bool ⟨H1, I1, q⟩
variable {tA tB' : TT} {rest : List Expr}
def tOr (t u : TT) : TT := fun σ H Q => t σ H fun c H1 => if c = true then Q true H1 else u σ H1 Q
def tNot (t : TT) : TT := fun σ H Q => t σ H fun c H1 => Q (!c) H1
theorem pw_or1 (ha : PT X a tA) : PW X (.BoolOp .Or [a] pos) tA := by
  intro wh pins s σ H Q I h
  refine isTrue_or (thn (ha pins s σ H Q I h) fun c s1 e => ?_)
  cases c with
  | false => exact isTrue_or_nil e
  | true => exact e
theorem pw_or (ha : PT X a tA) (hb : PW X (.BoolOp .Or (b :: rest) pos) tB') : PW X (.BoolOp .Or (a :: b :: rest) pos) (tOr tA tB') := by
  intro wh pins s σ H Q I h
  refine isTrue_or (thn (ha pins s σ H _ I h) fun c s1 ⟨H1, I1, q1⟩ => ?_)
  cases c with
  | true => exact ⟨H1, I1, q1⟩
  | false => exact hb wh pins s1 σ H1 Q I1 q1
theorem pt_not (ha : PT X a tA) : PT X (.UnaryOp .Not a pos) (tNot tA) := by
  intro pins s σ H Q I h
  exact isTrue_not (ha pins s σ H (fun c H1 => Q (!c) H1) I h)
def tAndV (ta tb : TE) : TE := fun σ H Q => ta σ H fun x H1 => ∃ c, x = .bl c ∧ if c = true then tb σ H1 Q else Q (.bl false) H1
theorem pe_one {op} {t : TE} (h : PE X a t) : PE X (.BoolOp op [a] pos) t := fun pins s σ H Q I hw => BoolOp_one (h pins s σ H Q I hw)
theorem pe_and (ha : PE X a ta) (hb : PE X (.BoolOp .And (b :: rest) pos) tb) : PE X (.BoolOp .And (a :: b :: rest) pos) (tAndV ta tb) := by
  intro pins s σ H Q I h
  refine BoolOp_and (thn (ha pins s σ H _ I h) fun v s1 ⟨x, H1, I1, r1, q1⟩ => ?_)
  obtain ⟨c, rfl, q1⟩ := q1
  cases r1
  refine wpAny_truthy_bool ?_
  cases c with
  | true => exact hb pins s1 σ H1 Q I1 q1
  | false => exact ⟨.bl false, H1, I1, rfl, q1⟩
end
end L2
namespace L2
open PySem PySem.Spec PyProof.Rows
def SqL (K : PySem.W.Frag) (H : Hp) (a : Addr) (xs : List V) : Prop :=
  Rd H a (.lst xs) ∨
    ∃ (o : Obj) (its : Array Value) (n : Nat), K.lookup a = some o ∧ o.cls = .type "list" ∧ o.dict = none ∧ o.data = .seq its n ∧ its.size ≤ sizeLine ∧ Vals xs its.toList
def SqT (K : PySem.W.Frag) (H : Hp) (a : Addr) (xs : List V) : Prop :=
  Rd H a (.tup xs) ∨
    ∃ (o : Obj) (its : Array Value) (n : Nat), K.lookup a = some o ∧ o.cls = .type "tuple" ∧ o.data = .seq its n ∧ its.size ≤ sizeLine ∧ Vals xs its.toList
def absV : Value → Option V
  | .none => some .non
  | .bool b => some (.bl b)
  | .int i _ => some (.int i)
  | .str x _ => some (.str x)
  | .bytes b _ => some (.byt b)
  | .float b _ => some (.flt b)
  | .ref a => some (.ref a)
  | .type n => some (.ty n)
  | _ => none
theorem RelV.abs {x : V} {u : Value} (r : RelV x u) : absV u = some x := by
  cases x with
  | non => cases r; rfl
  | bl _ => cases r; rfl
  | int _ => obtain ⟨t, rfl⟩ := r; rfl
  | str _ => obtain ⟨t, rfl⟩ := r; rfl
  | byt _ => obtain ⟨t, rfl⟩ := r; rfl
  | flt _ => obtain ⟨t, rfl⟩ := r; rfl
  | ref _ => cases r; rfl
  | ty _ => cases r; rfl
theorem RelV.inj {x y : V} {u : Value} (r : RelV x u) (q : RelV y u) : x = y := Option.some.inj (r.abs.symm.trans q.abs)
theorem Vals.inj : ∀ {xs ys : List V} {us : List Value}, Vals xs us → Vals ys us → xs = ys
  | _, _, _, .nil, .nil => rfl
  | _, _, _, .cons r t, .cons r' t' => by rw [r.inj r', Vals.inj t t']
section
variable {X : Cx} {pins : List (Addr × Obj)} {σ : St} {H : Hp} {s : Shared} {a : Addr} {xs ys : List V}
theorem SqL.of {K : PySem.W.Frag} (h : H a = some (.lst xs)) : SqL K H a xs := .inl (.inl h)
theorem SqT.of {K : PySem.W.Frag} (h : H a = some (.tup xs)) : SqT K H a xs := .inl (.inl h)
theorem Inv.list (I : Inv X pins σ H s) (h : SqL X.K H a xs) : ∃ its : List Value, Vals xs its ∧ PlainL s.heap a its.toArray ∧ xs.length ≤ sizeLine := by
  rcases h with h | ⟨o, its, n, hk, hc, hd, hs, hz, r⟩
  · obtain ⟨z, its, n, r, e⟩ := h.ok I.hok
    exact ⟨its, r, ⟨_, n, e, rfl, rfl, rfl⟩, z⟩
  · refine ⟨its.toList, r, ⟨o, n, I.kIn a o hk, hc, hd, by simpa using hs⟩, ?_⟩
    have e := r.length
    simp only [Array.length_toList] at e
    omega
theorem Inv.tuple (I : Inv X pins σ H s) (h : SqT X.K H a xs) : ∃ its : List Value, Vals xs its ∧ IsTup s.heap a its.toArray ∧ xs.length ≤ sizeLine := by
  rcases h with h | ⟨o, its, n, hk, hc, hs, hz, r⟩
  · obtain ⟨z, its, r, p⟩ := h.ok I.hok
    exact ⟨its, r, p, z⟩
  · refine ⟨its.toList, r, ⟨o, I.kIn a o hk, hc, n, by simpa using hs⟩, ?_⟩
    have e := r.length
    simp only [Array.length_toList] at e
    omega
theorem Inv.list_inj (I : Inv X pins σ H s) (h : SqL X.K H a xs) (h' : SqL X.K H a ys) : xs = ys := by
  obtain ⟨its, r, ⟨o, n, e, _, _, d⟩, _⟩ := I.list h
  obtain ⟨its', r', ⟨o', n', e', _, _, d'⟩, _⟩ := I.list h'
  rw [e] at e'; cases e'
  rw [d] at d'
  injection d' with d1 _
  have : its = its' := by simpa using congrArg Array.toList d1
  subst this
  exact r.inj r'
theorem Inv.tuple_inj (I : Inv X pins σ H s) (h : SqT X.K H a xs) (h' : SqT X.K H a ys) : xs = ys := by
  obtain ⟨its, r, ⟨o, e, _, n, d⟩, _⟩ := I.tuple h
  obtain ⟨its', r', ⟨o', e', _, n', d'⟩, _⟩ := I.tuple h'
  rw [e] at e'; cases e'
  rw [d] at d'
  injection d' with d1 _
  have : its = its' := by simpa using congrArg Array.toList d1
  subst this
  exact r.inj r'
end
abbrev Cx.wish (X : Cx) (E : Value → Shared → Prop) : Cx := { X with xe := E }
abbrev Cx.nox (X : Cx) : Cx := X.wish fun _ _ => False
theorem Cx.Ok.wish {X : Cx} (ok : X.Ok) (E : Value → Shared → Prop) : (X.wish E).Ok :=
  ⟨ok.mod, ok.kind, ok.glob, ok.blt, ok.above, ok.inj, ok.has, ok.cab, ok.hd, ok.frames, ok.stk, ok.exf, ok.bs, ok.bsz, ok.noex, ok.exfs, ok.funs, ok.frf⟩
theorem Cx.Ok.unwish {X : Cx} {E : Value → Shared → Prop} (ok : (X.wish E).Ok) : X.Ok :=
  ⟨ok.mod, ok.kind, ok.glob, ok.blt, ok.above, ok.inj, ok.has, ok.cab, ok.hd, ok.frames, ok.stk, ok.exf, ok.bs, ok.bsz, ok.noex, ok.exfs, ok.funs, ok.frf⟩
section
variable {X : Cx} {pins : List (Addr × Obj)} {σ : St} {H : Hp} {s : Shared} {E : Value → Shared → Prop}
theorem Inv.wish (I : Inv X pins σ H s) (E : Value → Shared → Prop) : Inv (X.wish E) pins σ H s := ⟨I.ok.wish E, I.os, I.bare, I.base, I.loc, I.cell, I.free, I.freeC, I.pin, I.hok, I.len⟩
theorem Inv.unwish (I : Inv (X.wish E) pins σ H s) : Inv X pins σ H s := ⟨I.ok.unwish, I.os, I.bare, I.base, I.loc, I.cell, I.free, I.freeC, I.pin, I.hok, I.len⟩
theorem SP.unwish {D : Ends} {f : Flow} {s' : Shared} (h : SP (X.wish E) pins D f s') : SP X pins D f s' := by
  cases f with
  | next => obtain ⟨σ', H', I, q⟩ := h; exact ⟨σ', H', I.unwish, q⟩
  | brk => obtain ⟨σ', H', I, q⟩ := h; exact ⟨σ', H', I.unwish, q⟩
  | cont => obtain ⟨σ', H', I, q⟩ := h; exact ⟨σ', H', I.unwish, q⟩
  | ret u => obtain ⟨v, σ', H', I, r, q⟩ := h; exact ⟨v, σ', H', I.unwish, r, q⟩
theorem PE.nox {e : Expr} {t : TE} (h : PE X.nox e t) : PE X e t := fun pins s σ H Q I hw =>
  wpAny_mono (h pins s σ H Q (I.wish _) hw) (fun _ _ ⟨v, H', I', r, q⟩ => ⟨v, H', I'.unwish, r, q⟩) fun _ _ z => False.elim z
theorem PT.nox {e : Expr} {t : TT} (h : PT X.nox e t) : PT X e t := fun pins s σ H Q I hw =>
  wpAny_mono (h pins s σ H Q (I.wish _) hw) (fun _ _ ⟨H', I', q⟩ => ⟨H', I'.unwish, q⟩) fun _ _ z => False.elim z
theorem PSs.nox {st : List Stmt} {t : TS} (h : PSs X.nox st t) : PSs X st t := fun pins s σ H D I hw =>
  wpAny_mono (h pins s σ H D (I.wish _) hw) (fun _ _ q => q.unwish) fun _ _ z => False.elim z
end
section
variable {X : Cx} {st : Stmt} {rest : List Stmt} {t u : TS} {e : Expr} {te : TE} {pos : Pos}
def tNext : TS := fun D σ H => D.nx σ H
def tSeq (t u : TS) : TS := fun D σ H => t { D with nx := u D } σ H
theorem pss_nil : PSs X [] tNext := fun _ _ σ H _ I h => wpAny_execs_nil ⟨σ, H, I, h⟩
theorem pss_cons (h1 : PS X st t) (h2 : PSs X rest u) : PSs X (st :: rest) (tSeq t u) := by
  intro pins s σ H D I h
  refine wpAny_execs_cons (thn (h1 pins s σ H { D with nx := u D } I h) fun f s1 q => ?_)
  cases f with
  | next =>
    obtain ⟨σ', H', I', q⟩ := q
    exact h2 pins s1 σ' H' D I' q
  | ret v => exact q
  | brk => exact q
  | cont => exact q
theorem pss_one (h1 : PS X st t) : PSs X [st] t := by
  intro pins s σ H D I h
  refine wpAny_execs_cons (thn (h1 pins s σ H D I h) fun f s1 q => ?_)
  cases f with
  | next => exact wpAny_execs_nil q
  | ret v => exact q
  | brk => exact q
  | cont => exact q
theorem Inv.quiet {pins : List (Addr × Obj)} {σ : St} {H : Hp} {s : Shared} (I : Inv X pins σ H s) : interactive X.env = false := by simp [interactive, I.ok.kind]
def tDrop (te : TE) : TS := fun D σ H => te σ H fun _ H1 => D.nx σ H1
theorem ps_expr (he : PE X e te) (hs : swapsWith e none pos.line X.env = pure false := by rfl) : PS X (.Expr e pos) (tDrop te) := by
  intro pins s σ H D I h
  exact wpAny_Expr_any (thn (he pins s σ H _ I h) fun v s1 ⟨x, H1, I1, r1, q1⟩ => ⟨σ, H1, I1, q1⟩) I.quiet hs
def tRet (te : TE) : TS := fun D σ H => te σ H D.rt
theorem ps_ret (he : PE X e te) : PS X (.Return (some e) pos) (tRet te) := by
  intro pins s σ H D I h
  exact wpAny_Return_some (thn (he pins s σ H _ I h) fun v s1 ⟨x, H1, I1, r1, q1⟩ => ⟨x, σ, H1, I1, r1, q1⟩)
def tIfS (c : TT) (t u : TS) : TS := fun D σ H => c σ H fun b H1 => if b = true then t D σ H1 else u D σ H1
theorem ps_if {c : Expr} {a b : List Stmt} {tc : TT} (hc : PT X c tc) (ha : PSs X a t) (hb : PSs X b u) : PS X (.If c a b pos) (tIfS tc t u) := by
  intro pins s σ H D I h
  refine wpAny_If (thn (hc pins s σ H _ I h) fun d s1 ⟨H1, I1, q1⟩ => ?_)
  cases d with
  | true => exact ha pins s1 σ H1 D I1 q1
  | false => exact hb pins s1 σ H1 D I1 q1
end
abbrev TG := V → St → Hp → (St → Hp → Prop) → Prop
abbrev TGs := List V → St → Hp → (St → Hp → Prop) → Prop
def PG (X : Cx) (target : Expr) (t : TG) : Prop :=
  ∀ (pins : List (Addr × Obj)) (s : Shared) (σ : St) (H : Hp) (v : V) (u : Value) (Q : St → Hp → Prop), Inv X pins σ H s → RelV v u → t v σ H Q →
    wpAny (model X.prog X.w) X.A (assign target X.env u) (fun _ s' => ∃ σ' H', Inv X pins σ' H' s' ∧ Q σ' H') X.xe s
def PGs (X : Cx) (ts : List Expr) (t : TGs) : Prop :=
  ∀ (pins : List (Addr × Obj)) (s : Shared) (σ : St) (H : Hp) (vs : List V) (us : List Value) (Q : St → Hp → Prop), Inv X pins σ H s → Vals vs us → t vs σ H Q →
    wpAny (model X.prog X.w) X.A (assignInOrder ((assignEach ts X.env).map (·.2)) us) (fun _ s' => ∃ σ' H', Inv X pins σ' H' s' ∧ Q σ' H') X.xe s
abbrev TSet := V → V → V → Hp → (Hp → Prop) → Prop
section
variable {X : Cx} {pos : Pos}
def gName (i : Nat) : TG := fun v σ H Q => Q (σ.set i (some v)) H
theorem pg_name {i : Nat} {x : Str} (hN : X.N.Nodup) (hi : X.N[i]? = some x) (hx : Loc X.env.scope x) (hf : X.fn x = true ∨ X.env.scope.names.lookup x = some .local := by first | exact .inl rfl | exact .inr rfl | assumption) : PG X (.Name x pos) (gName i) := by
  intro pins s σ H v u Q I r h
  exact wpAny_assign_Name (store_ok I hN hi hx r (fun s' I' => ⟨_, H, I', h⟩) hf)
def gNil : TGs := fun vs σ H Q => vs = [] ∧ Q σ H
def gCons (t : TG) (u : TGs) : TGs := fun vs σ H Q => ∃ v r, vs = v :: r ∧ t v σ H fun σ' H' => u r σ' H' Q
theorem pgs_nil : PGs X [] gNil := by
  intro pins s σ H vs us Q I r h
  obtain ⟨e, h⟩ := h
  subst e
  cases r
  exact assignInOrder_nil ⟨σ, H, I, h⟩
theorem pgs_cons {e : Expr} {es : List Expr} {t : TG} {u : TGs} (h1 : PG X e t) (h2 : PGs X es u)
    (hs : (assignEach (e :: es) X.env).map (·.2) = assign e X.env :: (assignEach es X.env).map (·.2) := by rfl) : PGs X (e :: es) (gCons t u) := by
  intro pins s σ H vs us Q I r h
  obtain ⟨v, vr, e1, h⟩ := h
  subst e1
  cases r with
  | cons r rr =>
    rw [hs]
    refine assignInOrder_cons (thn (h1 pins s σ H _ _ _ I r h) fun _ s1 ⟨σ1, H1, I1, q1⟩ => ?_)
    exact h2 pins s1 σ1 H1 _ _ Q I1 rr q1
def gTup (K : PySem.W.Frag) (n : Nat) (t : TGs) : TG := fun v σ H Q => ∃ a xs, v = .ref a ∧ SqT K H a xs ∧ xs.length = n ∧ t xs σ H Q
theorem pg_tup {es : List Expr} {k : Nat} {t : TGs} {n : Nat} (hc : X.calm = true) (h : PGs X es t)
    (hn : (assignEach es X.env).length = n := by rfl) (hst : (assignEach es X.env).findIdx? (·.1) = none := by rfl) : PG X (.Tuple es k pos) (gTup X.K n t) := by
  intro pins s σ H v u Q I r hw
  obtain ⟨a, xs, e1, hq, hl, hw⟩ := hw
  subst e1
  cases r
  obtain ⟨its, rv, ht, hz⟩ := I.tuple hq
  refine assign_Tuple_tuple (I.ok.hd hc) ht (by simp [hn, ← hl, rv.length]) hst fun h' hx => ?_
  have I1 : Inv X pins σ H { s with heap := h' } := I.kept (t' := s.toks) fun b o e => hx b o (Nat.ne_of_lt (Heap.lt_size e)) e
  exact h pins _ σ H xs _ Q I1 (by simpa using rv) hw
def gSub (to ti : TE) (t : TSet) : TG := fun v σ H Q => to σ H fun o H1 => ti σ H1 fun i H2 => t o i v H2 fun H3 => Q σ H3
def tAsg (te : TE) (g : TG) : TS := fun D σ H => te σ H fun x H1 => g x σ H1 D.nx
theorem ps_asg {tg e : Expr} {te : TE} {g : TG} (he : PE X e te) (hg : PG X tg g) (hs : swapsWithSole [tg] e pos.line X.env = pure false := by rfl) (hw : swappedStores [tg] e X.env = pure none := by rfl)
    (h1 : (assignEach [tg] X.env).map (·.2) = [assign tg X.env] := by rfl) : PS X (.Assign [tg] e pos) (tAsg te g) := by
  intro pins s σ H D I h
  refine wpAny_Assign_stores (thn (he pins s σ H _ I h) fun v s1 ⟨x, H1, I1, r1, q1⟩ => ?_) hs hw
  rw [h1]
  exact thn (hg pins s1 σ H1 x v _ I1 r1 q1) fun _ s2 q => q
theorem ps_set {i : Nat} {x : Str} {e : Expr} {te : TE} {pos' : Pos} (hN : X.N.Nodup) (hi : X.N[i]? = some x) (hx : Loc X.env.scope x) (he : PE X e te) (hs : swapsWith e (some (.Name x pos')) pos.line X.env = pure false := by rfl) (hf : X.fn x = true ∨ X.env.scope.names.lookup x = some .local := by first | exact .inl rfl | exact .inr rfl | assumption) :
    PS X (.Assign [.Name x pos'] e pos) (tAsg te (gName i)) := by
  intro pins s σ H D I h
  refine wpAny_Assign_Name (thn (he pins s σ H _ I h) fun v s1 ⟨y, H1, I1, r1, q1⟩ => ?_) hs
  exact store_ok I1 hN hi hx r1 (fun s2 I2 => ⟨_, H1, I2, q1⟩) hf
def tPar (i j : Nat) (ta : TA) : TS := fun D σ H => ta σ H fun vs H1 => ∃ v w, vs = [v, w] ∧ D.nx ((σ.set i (some v)).set j (some w)) H1
theorem ps_par {i j : Nat} {x y : Str} {a b : Expr} {ta : TA} {px py pt : Pos} {kt k2 pt2} (hc : X.calm = true) (hN : X.N.Nodup) (hi : X.N[i]? = some x) (hj : X.N[j]? = some y) (hij : i ≠ j)
    (hx : X.env.scope.names.lookup x = some .local) (hy : X.env.scope.names.lookup y = some .local) (ha : PA X [a, b] ta)
    (hw : swappedStores [.Tuple [.Name x px, .Name y py] kt pt] (.Tuple [a, b] k2 pt2) X.env = pure (some [x, y]))
    (hs : swapsWithSole [.Tuple [.Name x px, .Name y py] kt pt] (.Tuple [a, b] k2 pt2) pos.line X.env = pure false := by rfl) :
    PS X (.Assign [.Tuple [.Name x px, .Name y py] kt pt] (.Tuple [a, b] k2 pt2) pos) (tPar i j ta) := by
  intro pins s σ H D I h
  rw [exec_Assign_arm]
  refine wpAny_bind (wpAny_standAt ?_)
  rw [hs]
  refine wpAny_bind (wpAny_pure ?_)
  rw [if_neg (by decide)]
  refine wpAny_bind (Tuple_ (thn (ha _ pins s σ H _ I h) fun us s1 ⟨vs, H1, I1, r1, q1⟩ => ?_))
  obtain ⟨v, w, e1, q1⟩ := q1
  subst e1
  obtain ⟨u1, u2, rfl, rv, rw'⟩ : ∃ u1 u2, us = [u1, u2] ∧ RelV v u1 ∧ RelV w u2 := by
    cases r1 with
    | cons p q =>
      cases q with
      | cons p' q' =>
        cases q'
        exact ⟨_, _, rfl, p, p'⟩
  refine wpAny_newObj_type ?_ (by show 2 ≤ sizeLine; decide)
  have I2 : Inv X pins σ H1 { s1 with heap := s1.heap.push { cls := .type "tuple", data := .seq [u1, u2].toArray } } := I1.kept (t' := s1.toks) fun b o e => Heap.get?_push_of_some _ e
  rw [hw]
  refine wpAny_bind (wpAny_pure ?_)
  show wpAny (model X.prog X.w) X.A (do rule "assign.swapped-stores"; let items ← unpackItems (.ref s1.heap.objs.size) 2 none; assignInOrder [fun v => bindName X.env y v, fun v => bindName X.env x v] items.reverse; pure Flow.next) _ _ _
  refine wpAny_bind (wpAny_rule (wpAny_bind (unpackItems_tuple (items := #[u1, u2]) (I.ok.hd hc) (IsTup.new s1.heap _) fun h' hx' => ?_)))
  have I3 := I2.kept (h' := h') (t' := s1.toks) fun b o e => hx' b o (Nat.ne_of_lt (Heap.lt_size e)) e
  show wpAny _ _ (assignInOrder [fun v => bindName X.env y v, fun v => bindName X.env x v] [u2, u1] >>= fun _ => pure Flow.next) _ _ _
  refine wpAny_bind (assignInOrder_cons (wpAny_bindName (store_ok I3 hN hj (.inl hy) rw' (fun s2 I4 => ?_) (.inr hy))))
  refine assignInOrder_cons (wpAny_bindName (store_ok I4 hN hi (.inl hx) rv (fun s3 I5 => assignInOrder_nil (wpAny_pure ?_)) (.inr hx)))
  rw [List.set_comm _ _ (Ne.symm hij)] at I5
  exact ⟨_, H1, I5, q1⟩
end
section
variable {X : Cx} {pos : Pos}
end
structure It where
  go : Nat → Hp → Prop
  yld : Nat → Hp → V → Hp → Prop
  stop : Nat → Hp → Prop
def FpOk (X : Cx) (pins : List (Addr × Obj)) (H : Hp) (b : Addr) : Prop :=
  H b = none ∧ b ≠ X.env.locals ∧ b ∉ X.fs ∧ (b ∈ X.ex ∨ X.s₀.heap.objs.size ≤ b) ∧ (∀ x c, X.env.cells.lookup x = some c → c ≠ b) ∧ ∀ p ∈ X.pn ++ pins, p.1 ≠ b
theorem Inv.fpOk {X : Cx} {pins : List (Addr × Obj)} {σ : St} {H H' : Hp} {s : Shared} {b : Addr} (I : Inv X pins σ H s) (hb : s.heap.objs.size ≤ b) (hn : H' b = none) : FpOk X pins H' b := by
  refine ⟨hn, Nat.ne_of_gt (Nat.lt_of_lt_of_le I.lt hb), I.nofs hb, .inr (Nat.le_trans I.sz hb), fun x c e z => ?_, fun p hp z => ?_⟩
  · obtain ⟨v, q⟩ := I.cell x c e
    exact absurd (Nat.lt_of_lt_of_le q.lt (by rw [z]; exact hb)) (Nat.lt_irrefl _)
  · exact absurd (Nat.lt_of_lt_of_le (Heap.lt_size (I.pin p hp).1) (by rw [z]; exact hb)) (Nat.lt_irrefl _)
structure Turn (P : Program) (w : World) (K : PySem.W.Frag) (tg : Expr) (J : It) (fp : List Addr) (it : Addr) (tn : Nat → Heap → Prop) : Prop where
  mem : it ∈ fp
  obj : ∀ i h, tn i h → ∀ b ∈ fp, ∃ o, h.get? b = some o ∧ ∀ v, o.data ≠ .cell v
  keep : ∀ i h h', tn i h → (∀ b ∈ fp, ∀ o, h.get? b = some o → h'.get? b = some o) → tn i h'
  item : ∀ (X : Cx), X.prog = P → X.w = w → X.K = K → X.calm = true → ∀ (i : Nat) (pins : List (Addr × Obj)) (s : Shared) (σ : St) (H : Hp) (E : Value → Shared → Prop), Inv X pins σ H s → (∀ b ∈ fp, FpOk X pins H b) → tn i s.heap → J.go i H →
    wpAny (model P w) X.A (pyNext (.ref it)) (fun r s1 => ∃ u, r = some u ∧
      wpAny (model P w) X.A (letOwnedTupleGo tg (.ref it) u) (fun _ s2 => ∃ x H', Inv X pins σ H' s2 ∧ RelV x u ∧ J.yld i H x H' ∧ tn (i + 1) s2.heap ∧ ∀ b ∈ fp, H' b = none) E s1) E s
  done : ∀ (X : Cx), X.prog = P → X.w = w → X.K = K → X.calm = true → ∀ (i : Nat) (pins : List (Addr × Obj)) (s : Shared) (σ : St) (H : Hp) (E : Value → Shared → Prop), Inv X pins σ H s → (∀ b ∈ fp, FpOk X pins H b) → tn i s.heap → J.stop i H →
    wpAny (model P w) X.A (pyNext (.ref it)) (fun r s1 => r = none ∧ Inv X pins σ H s1) E s
  self : ∀ (A : Around) (i : Nat) (s : Shared) (Q : Value → Shared → Prop) (E : Value → Shared → Prop), tn i s.heap → Q (.ref it) s → wpAny (model P w) A (pyIter (.ref it)) Q E s
abbrev TI := St → Hp → (It → Hp → Prop) → Prop
def PIE (X : Cx) (pins : List (Addr × Obj)) (σ : St) (tg : Expr) (R : It → Hp → Prop) (itv : Value) (s2 : Shared) : Prop :=
  ∃ (it : Addr) (fp : List Addr) (tn : Nat → Heap → Prop) (J : It) (H' : Hp), itv = .ref it ∧ Inv X pins σ H' s2 ∧ Turn X.prog X.w X.K tg J fp it tn ∧ tn 0 s2.heap ∧ (∀ b ∈ fp, FpOk X pins H' b) ∧ R J H'
def PI (X : Cx) (tg iter : Expr) (wi : TI) : Prop :=
  ∀ (pins : List (Addr × Obj)) (s : Shared) (σ : St) (H : Hp) (R : It → Hp → Prop), Inv X pins σ H s → wi σ H R →
    wpAny (model X.prog X.w) X.A (eval iter X.env) (fun v s1 => wpAny (model X.prog X.w) X.A (pyIter v) (PIE X pins σ tg R) X.xe s1) X.xe s
theorem go_of {M : Model} {A : Around} {E : Value → Shared → Prop} {s : Shared} {tg : Expr} {it : Addr} {u : Value} {o : Obj} {n : String} {vs : Array Value} {Q : Unit → Shared → Prop} (ho : s.heap.get? it = some o) (hc : o.cls = .type n) (hd : o.data = .fields vs)
    (hn : ["enumerate", "zip", "dict_itemiterator", "dict_reverseitemiterator", "odict_iterator", "itertools.zip_longest", "itertools.pairwise"].contains n = false) (hQ : Q () s) : wpAny M A (letOwnedTupleGo tg (.ref it) u) Q E s := by
  unfold letOwnedTupleGo
  cases tg <;> first
    | exact wpAny_pure hQ
    | (cases u <;> first
        | exact wpAny_pure hQ
        | (refine wpAny_bind (wpAny_load ho ?_)
           rw [hc, hd]
           show wpAny M A (if (["enumerate", "zip", "dict_itemiterator", "dict_reverseitemiterator", "odict_iterator", "itertools.zip_longest", "itertools.pairwise"].contains n && vs[0]? == some (rawInt _)) = true then _ else _) Q E s
           rw [if_neg (by intro h; rw [hn, Bool.false_and] at h; cases h)]
           exact wpAny_pure hQ))
def Itl (K : PySem.W.Frag) (a : Addr) : It :=
  ⟨fun i H => ∃ xs x, SqL K H a xs ∧ xs[i]? = some x, fun i H x H' => H' = H ∧ ∀ xs, SqL K H a xs → xs[i]? = some x, fun i H => ∃ xs, SqL K H a xs ∧ xs.length ≤ i⟩
def Itt (K : PySem.W.Frag) (a : Addr) : It :=
  ⟨fun i H => ∃ xs x, SqT K H a xs ∧ xs[i]? = some x, fun i H x H' => H' = H ∧ ∀ xs, SqT K H a xs → xs[i]? = some x, fun i H => ∃ xs, SqT K H a xs ∧ xs.length ≤ i⟩
def Itr (lo : Int) (n : Nat) : It := ⟨fun i _ => i < n, fun i H x H' => H' = H ∧ x = .int (lo + i), fun i _ => n ≤ i⟩
theorem turn_list {P : Program} {w : World} {K : PySem.W.Frag} {tg : Expr} (a it : Addr) : Turn P w K tg (Itl K a) [it] it (fun i h => h.IsListIter it a i) where
  mem := by simp
  obj := fun i h st b hb => by
    have e : b = it := by simpa using hb
    subst e
    obtain ⟨o, e, c, d⟩ := st
    exact ⟨o, e, fun v z => by rw [d] at z; cases z⟩
  keep := fun i h h' st k => st.at fun o e => k it (by simp) o e
  item := by
    intro X hP hw hK hc i pins s σ H E I hf st hg
    subst hP hw hK
    obtain ⟨xs, x, hq, hx⟩ := hg
    obtain ⟨its, rv, p, hz⟩ := I.list hq
    obtain ⟨u, hu, ru⟩ := rv.get hx
    obtain ⟨f0, f1, f2, f3, f4, f5⟩ := hf it (by simp)
    refine wpAny_pyNext_list_item st p.isList (x := u) (by simpa using hu) fun h' st' sb => ?_
    have I1 : Inv X pins σ H { s with heap := h' } := I.turned (t' := s.toks) (fun b o hb e => (sb.2 b hb).trans e) f0 f1 f3 f4 f5
    obtain ⟨o, e, c, d⟩ := id st'
    exact ⟨u, rfl, go_of (s := { s with heap := h' }) e c d (by decide) ⟨x, H, I1, ru, ⟨rfl, fun ys hy => by rw [I.list_inj hy hq]; exact hx⟩, st', fun b hb => (hf b hb).1⟩⟩
  done := by
    intro X hP hw hK hc i pins s σ H E I hf st hg
    subst hP hw hK
    obtain ⟨xs, hq, hx⟩ := hg
    obtain ⟨its, rv, p, hz⟩ := I.list hq
    obtain ⟨f0, f1, f2, f3, f4, f5⟩ := hf it (by simp)
    have hl := rv.length
    exact wpAny_pyNext_list_end (I.ok.hd hc) st p.isList (by simp; omega) fun h' eb => ⟨rfl, I.turned (t' := s.toks) (fun b o hb e => eb b o hb e) f0 f1 f3 f4 f5⟩
  self := fun _ _ _ _ _ st h => wpAny_pyIter_listiter st h
theorem turn_tuple {P : Program} {w : World} {K : PySem.W.Frag} {tg : Expr} (a it : Addr) : Turn P w K tg (Itt K a) [it] it (fun i h => h.IsTupleIter it a i) where
  mem := by simp
  obj := fun i h st b hb => by
    have e : b = it := by simpa using hb
    subst e
    obtain ⟨o, e, c, d⟩ := st
    exact ⟨o, e, fun v z => by rw [d] at z; cases z⟩
  keep := fun i h h' st k => st.at fun o e => k it (by simp) o e
  item := by
    intro X hP hw hK hc i pins s σ H E I hf st hg
    subst hP hw hK
    obtain ⟨xs, x, hq, hx⟩ := hg
    obtain ⟨its, rv, p, hz⟩ := I.tuple hq
    obtain ⟨u, hu, ru⟩ := rv.get hx
    obtain ⟨f0, f1, f2, f3, f4, f5⟩ := hf it (by simp)
    refine wpAny_pyNext_tuple_item st (show s.heap.IsTuple a its.toArray from p) (x := u) (by simpa using hu) fun h' st' sb => ?_
    have I1 : Inv X pins σ H { s with heap := h' } := I.turned (t' := s.toks) (fun b o hb e => (sb.2 b hb).trans e) f0 f1 f3 f4 f5
    obtain ⟨o, e, c, d⟩ := id st'
    exact ⟨u, rfl, go_of (s := { s with heap := h' }) e c d (by decide) ⟨x, H, I1, ru, ⟨rfl, fun ys hy => by rw [I.tuple_inj hy hq]; exact hx⟩, st', fun b hb => (hf b hb).1⟩⟩
  done := by
    intro X hP hw hK hc i pins s σ H E I hf st hg
    subst hP hw hK
    obtain ⟨xs, hq, hx⟩ := hg
    obtain ⟨its, rv, p, hz⟩ := I.tuple hq
    obtain ⟨f0, f1, f2, f3, f4, f5⟩ := hf it (by simp)
    have hl := rv.length
    exact wpAny_pyNext_tuple_end (I.ok.hd hc) st (show s.heap.IsTuple a its.toArray from p) (by simp; omega) fun h' eb => ⟨rfl, I.turned (t' := s.toks) (fun b o hb e => eb b o hb e) f0 f1 f3 f4 f5⟩
  self := fun _ _ _ _ _ st h => wpAny_pyIter_tupleiter st h
theorem turn_range {P : Program} {w : World} {K : PySem.W.Frag} {tg : Expr} (it : Addr) (lo : Int) (n : Nat) : Turn P w K tg (Itr lo n) [it] it (fun i h => IsRangeIter h it (lo + (i : Nat) * 1) ((n : Int) - (i : Nat)) 1) where
  mem := by simp
  obj := fun i h st b hb => by
    have e : b = it := by simpa using hb
    subst e
    exact ⟨_, st, fun v z => by
      have z' : Data.fields _ = Data.cell v := z
      cases z'⟩
  keep := fun i h h' st k => k it (by simp) _ st
  item := by
    intro X hP hw hK hc i pins s σ H E I hf st hg
    subst hP hw hK
    obtain ⟨f0, f1, f2, f3, f4, f5⟩ := hf it (by simp)
    have W := Walks.range (prog := X.prog) (w := X.w) (I.ok.hd hc) it lo 1 n
    refine W.item i s _ _ hg st fun v h' tk hv st' kk => ?_
    obtain ⟨t, rfl⟩ := hv
    have I1 : Inv X pins σ H { s with heap := h', toks := tk } := I.turned (fun b o hb e => kk b o (by simpa using hb) e) f0 f1 f3 f4 f5
    refine ⟨_, rfl, go_of (s := { s with heap := h', toks := tk }) (n := "range_iterator") st' rfl rfl (by decide) ⟨.int (lo + i), H, I1, ⟨t, ?_⟩, ⟨rfl, rfl⟩, st', fun b hb => (hf b hb).1⟩⟩
    rw [Int.mul_one]
  done := by
    intro X hP hw hK hc i pins s σ H E I hf st hg
    subst hP hw hK
    obtain ⟨f0, f1, f2, f3, f4, f5⟩ := hf it (by simp)
    exact wpAny_pyNext_range_end (I.ok.hd hc) st (by have : n ≤ i := hg; omega) fun h' eb => ⟨rfl, I.turned (t' := s.toks) (fun b o hb e => eb b o hb e) f0 f1 f3 f4 f5⟩
  self := fun _ _ _ _ _ st h => wpAny_pyIter_rangeiter st h
end L2
namespace L2
open PySem PySem.Spec PyProof.Rows
section
variable {X : Cx} {tg : Expr}
def iList (K : PySem.W.Frag) (tl : TE) : TI := fun σ H R => tl σ H fun x H1 => ∃ a, x = .ref a ∧ (∃ xs, SqL K H1 a xs) ∧ R (Itl K a) H1
def iTup (K : PySem.W.Frag) (tl : TE) : TI := fun σ H R => tl σ H fun x H1 => ∃ a, x = .ref a ∧ (∃ xs, SqT K H1 a xs) ∧ R (Itt K a) H1
theorem pi_list {l : Expr} {tl : TE} (hl : PE X l tl) : PI X tg l (iList X.K tl) := by
  intro pins s σ H R I h
  refine thn (hl pins s σ H _ I h) fun v s1 ⟨x, H1, I1, r1, q1⟩ => ?_
  obtain ⟨a, e, ⟨xs, hq⟩, q⟩ := q1
  subst e
  cases r1
  obtain ⟨its, rv, p, hz⟩ := I1.list hq
  refine wpAny_pyIter_list p.isList ?_
  refine ⟨s1.heap.objs.size, [s1.heap.objs.size], _, _, H1, rfl, I1.kept (t' := s1.toks) fun b o e => Heap.get?_push_of_some _ e, turn_list a _, ⟨_, Heap.get?_push_size _ rfl, rfl, rfl⟩, fun b hb => ?_, q⟩
  have e : b = s1.heap.objs.size := by simpa using hb
  subst e
  exact I1.fpOk (Nat.le_refl _) (I1.hok.fresh (Nat.le_refl _))
theorem pi_tup {l : Expr} {tl : TE} (hl : PE X l tl) : PI X tg l (iTup X.K tl) := by
  intro pins s σ H R I h
  refine thn (hl pins s σ H _ I h) fun v s1 ⟨x, H1, I1, r1, q1⟩ => ?_
  obtain ⟨a, e, ⟨xs, hq⟩, q⟩ := q1
  subst e
  cases r1
  obtain ⟨its, rv, p, hz⟩ := I1.tuple hq
  refine wpAny_pyIter_tuple (show s1.heap.IsTuple a its.toArray from p) ?_
  refine ⟨s1.heap.objs.size, [s1.heap.objs.size], _, _, H1, rfl, I1.kept (t' := s1.toks) fun b o e => Heap.get?_push_of_some _ e, turn_tuple a _, ⟨_, Heap.get?_push_size _ rfl, rfl, rfl⟩, fun b hb => ?_, q⟩
  have e : b = s1.heap.objs.size := by simpa using hb
  subst e
  exact I1.fpOk (Nat.le_refl _) (I1.hok.fresh (Nat.le_refl _))
theorem range_it {pins : List (Addr × Obj)} {σ : St} {H : Hp} {s : Shared} {R : It → Hp → Prop} {E : Value → Shared → Prop} {lo hi : Int} {t u v : Tok} {tk : Nat} (I : Inv X pins σ H s) (h1 : -(2 ^ 62) ≤ lo) (h2 : lo < 2 ^ 62) (h3 : -(2 ^ 62) ≤ hi) (h4 : hi < 2 ^ 62)
    (q : R (Itr lo (hi - lo).toNat) H) : wpAny (model X.prog X.w) X.A (pyIter (.ref s.heap.objs.size)) (PIE X pins σ tg R) E { s with heap := s.heap.push { cls := .type "range", data := .fields #[.int lo t, .int hi u, .int 1 v] }, toks := tk } := by
  refine wpAny_pyIter_range (IsRange.new ..) (small_one h1 h2 h3 h4) ?_
  have I1 : Inv X pins σ H { s with heap := s.heap.push { cls := .type "range", data := .fields #[.int lo t, .int hi u, .int 1 v] }, toks := tk } := I.kept fun b o e => Heap.get?_push_of_some _ e
  refine ⟨(s.heap.push { cls := .type "range", data := .fields #[.int lo t, .int hi u, .int 1 v] }).objs.size, [(s.heap.push { cls := .type "range", data := .fields #[.int lo t, .int hi u, .int 1 v] }).objs.size], _, _, H, rfl,
    I1.kept (t' := tk) fun b o e => Heap.get?_push_of_some _ e, turn_range _ lo (hi - lo).toNat, ?_, fun b hb => ?_, q⟩
  · have e1 : lo + ((0 : Nat) : Int) * 1 = lo := by simp
    have e2 : (((hi - lo).toNat : Nat) : Int) - ((0 : Nat) : Int) = Builtin.Range.rangeSize lo hi 1 := by rw [rangeSize_one]; split <;> omega
    show IsRangeIter _ _ (lo + ((0 : Nat) : Int) * 1) ((((hi - lo).toNat : Nat) : Int) - ((0 : Nat) : Int)) 1
    rw [e1, e2]
    exact Heap.get?_push_size _ rfl
  · have e : b = (s.heap.push { cls := .type "range", data := .fields #[.int lo t, .int hi u, .int 1 v] }).objs.size := by simpa using hb
    subst e
    exact I1.fpOk (Nat.le_refl _) (I1.hok.fresh (Nat.le_refl _))
def iRng1 (ta : TA) : TI := fun σ H R => ta σ H fun vs H1 => ∃ j : Int, vs = [.int j] ∧ -(2 ^ 62) ≤ j ∧ j < 2 ^ 62 ∧ R (Itr 0 j.toNat) H1
def iRng2 (ta : TA) : TI := fun σ H R => ta σ H fun vs H1 => ∃ i j : Int, vs = [.int i, .int j] ∧ (-(2 ^ 62) ≤ i ∧ i < 2 ^ 62 ∧ -(2 ^ 62) ≤ j ∧ j < 2 ^ 62) ∧ R (Itr i (j - i).toNat) H1
theorem pi_range1 {a : Expr} {ta : TA} {p pos : Pos} (hg : Gl X "range") (hm : X.mg "range" = none) (ha : PA X [a] ta) (hs : starEach [a] X.env = [(false, eval a X.env)] := by rfl) : PI X tg (.Call (.Name "range" p) [a] [] pos) (iRng1 ta) := by
  intro pins s σ H R I h
  refine Call_ (ld_blt I hg hm boot_range (PyProof.Rows.callWith_type1 (thn (ha pos pins s σ H _ I h) fun us s1 ⟨vs, H1, I1, r1, q1⟩ => ?_) hs rfl))
  obtain ⟨j, e, q1, q2, q⟩ := q1
  subst e
  cases r1 with
  | cons r rr =>
    cases rr
    obtain ⟨t, rfl⟩ := r
    exact call_range_1 (range_it I1 (by omega) (by omega) q1 q2 (by simpa using q))
theorem pi_range2 {a b : Expr} {ta : TA} {p pos : Pos} (hg : Gl X "range") (hm : X.mg "range" = none) (ha : PA X [a, b] ta) (hs : starEach [a, b] X.env = [(false, eval a X.env), (false, eval b X.env)] := by rfl) (hs2 : starEach [b] X.env = [(false, eval b X.env)] := by rfl) :
    PI X tg (.Call (.Name "range" p) [a, b] [] pos) (iRng2 ta) := by
  intro pins s σ H R I h
  refine Call_ (ld_blt I hg hm boot_range (PyProof.Rows.callWith_type1 (thn (ha pos pins s σ H _ I h) fun us s1 ⟨vs, H1, I1, r1, q1⟩ => ?_) (by rw [hs, hs2]) (by rw [hs2]; rfl)))
  obtain ⟨i, j, e, ⟨q1, q2, q3, q4⟩, q⟩ := q1
  subst e
  cases r1 with
  | cons r rr =>
    cases rr with
    | cons r' rr =>
      cases rr
      obtain ⟨t, rfl⟩ := r
      obtain ⟨t', rfl⟩ := r'
      exact call_range_2 (range_it I1 q1 q2 q3 q4 q)
def tFor (wi : TI) (g : TG) (tb : TS) : TS := fun D σ H => wi σ H fun J H1 => ∃ W : Nat → Nat → St → Hp → Prop, (∃ m, W 0 m σ H1) ∧ ∀ i m σ H, W i m σ H →
  (J.stop i H ∧ D.nx σ H) ∨ (J.go i H ∧ ∃ N : St → Hp → Prop, (∀ σ' H', N σ' H' → ∃ m', m' < m ∧ W (i + 1) m' σ' H') ∧ ∀ x H', J.yld i H x H' → g x σ H' fun σ2 H2 => tb { D with nx := N, ct := N, bk := D.nx } σ2 H2)
def pinsAt (fp : List Addr) (h : Heap) : List (Addr × Obj) := fp.filterMap fun b => (h.get? b).map fun o => (b, o)
theorem mem_pinsAt {fp : List Addr} {h : Heap} {b : Addr} {o : Obj} (hb : b ∈ fp) (e : h.get? b = some o) : (b, o) ∈ pinsAt fp h := List.mem_filterMap.mpr ⟨b, hb, by rw [e]; rfl⟩
theorem of_pinsAt {fp : List Addr} {h : Heap} {p : Addr × Obj} (hp : p ∈ pinsAt fp h) : p.1 ∈ fp ∧ h.get? p.1 = some p.2 := by
  obtain ⟨b, hb, e⟩ := List.mem_filterMap.mp hp
  cases q : h.get? b with
  | none => rw [q] at e; cases e
  | some o =>
    rw [q] at e
    have e' : (b, o) = p := Option.some.inj e
    subst e'
    exact ⟨hb, q⟩
theorem Inv.pinned {pins : List (Addr × Obj)} {σ : St} {H : Hp} {s : Shared} {fp : List Addr} (I : Inv X pins σ H s) (hf : ∀ b ∈ fp, FpOk X pins H b) (ho : ∀ b ∈ fp, ∃ o, s.heap.get? b = some o ∧ ∀ v, o.data ≠ .cell v) : Inv X (pins ++ pinsAt fp s.heap) σ H s :=
  I.pins_of fun p hp => (List.mem_append.mp hp).elim (fun z => I.pin p (List.mem_append_right _ z)) fun z => by
    obtain ⟨hb, e⟩ := of_pinsAt z
    obtain ⟨f0, f1, f2, _⟩ := hf p.1 hb
    obtain ⟨o, e', d⟩ := ho p.1 hb
    rw [e] at e'; cases e'
    exact ⟨e, f0, f1, f2, d⟩
theorem Inv.unpinned {pins pl : List (Addr × Obj)} {σ : St} {H : Hp} {s : Shared} (I : Inv X (pins ++ pl) σ H s) : Inv X pins σ H s := I.pins_of fun p hp => I.pin p (List.mem_append_right _ (List.mem_append_left _ hp))
theorem ps_for {iter : Expr} {body : List Stmt} {wi : TI} {g : TG} {tb : TS} {pos : Pos} (hp : PassesOwn (model X.prog X.w) X.A X.env X.xe) (hc : X.calm = true) (hi : PI X tg iter wi) (hg : PG X tg g) (hb : PSs X body tb)
    (hs : ∀ x, foldedSetIterable iter X.env x = pure x := by intro _; rfl) : PS X (.For tg iter body [] pos) (tFor wi g tb) := by
  intro pins s σ H D I h
  refine wpAny_For (thn (hi pins s σ H _ I h) fun v s1 h1 => thn h1 fun itv s2 h2 => ?_) hs
  obtain ⟨it, fp, tn, J, H2, e, I2, T, st2, f2, W, ⟨m0, w0⟩, turn⟩ := h2
  subst e
  have stat : ∀ {H' : Hp}, (∀ b ∈ fp, H' b = none) → ∀ b ∈ fp, FpOk X pins H' b := fun hn b hb => ⟨hn b hb, (f2 b hb).2⟩
  refine codeAny_forLoop_any (fun n s' => ∃ i σ' H', Inv X pins σ' H' s' ∧ tn i s'.heap ∧ (∀ b ∈ fp, H' b = none) ∧ W i n σ' H') ?_ m0 ⟨0, σ, H2, I2, st2, fun b hb => (f2 b hb).1, w0⟩
  rintro n s3 ⟨i, σ3, H3, I3, st3, fr3, w3⟩
  rcases turn i n σ3 H3 w3 with ⟨stop, qn⟩ | ⟨go, N, hN, step⟩
  · refine wpAny_passesOwn hp (thn (T.done X rfl rfl rfl hc i pins s3 σ3 H3 X.xe I3 (stat fr3) st3 stop) fun r s4 ⟨hr, I4⟩ => ?_)
    subst hr
    exact wpAny_execs_nil ⟨σ3, H3, I4, qn⟩
  · refine wpAny_passesOwn hp (thn (T.item X rfl rfl rfl hc i pins s3 σ3 H3 X.xe I3 (stat fr3) st3 go) fun r s4 ⟨u, hr, h4⟩ => ?_)
    subst hr
    refine wpAny_passesOwn hp (thn h4 fun _ s5 ⟨x, H5, I5, r5, y5, st5, fr5⟩ => ?_)
    have I5' := I5.pinned (stat fr5) (T.obj _ _ st5)
    refine wpAny_passesOwn hp (thn (hg _ s5 σ3 H5 x u _ I5' r5 (step x H5 y5)) fun _ s6 ⟨σ6, H6, I6, q6⟩ => ?_)
    refine wpAny_passesOwn hp (thn (hb _ s6 σ6 H6 _ I6 q6) fun f s7 q7 => ?_)
    have again : ∀ {σ7 : St} {H7 : Hp}, Inv X (pins ++ pinsAt fp s5.heap) σ7 H7 s7 → N σ7 H7 → ∃ m, m < n ∧ ∃ i σ' H', Inv X pins σ' H' s7 ∧ tn i s7.heap ∧ (∀ b ∈ fp, H' b = none) ∧ W i m σ' H' := fun {σ7 H7} I7 n7 => by
      obtain ⟨m', hm, w7⟩ := hN σ7 H7 n7
      refine ⟨m', hm, i + 1, σ7, H7, I7.unpinned, T.keep _ _ _ st5 fun b hb o e => (I7.pin (b, o) (List.mem_append_right _ (List.mem_append_right _ (mem_pinsAt hb e)))).1, fun b hb => ?_, w7⟩
      obtain ⟨o, e, d⟩ := T.obj _ _ st5 b hb
      exact (I7.pin (b, o) (List.mem_append_right _ (List.mem_append_right _ (mem_pinsAt hb e)))).2.1
    cases f with
    | next => obtain ⟨σ7, H7, I7, n7⟩ := q7; exact again I7 n7
    | cont => obtain ⟨σ7, H7, I7, n7⟩ := q7; exact again I7 n7
    | brk => obtain ⟨σ7, H7, I7, q7⟩ := q7; exact ⟨σ7, H7, I7.unpinned, q7⟩
    | ret v => obtain ⟨x7, σ7, H7, I7, r7, q7⟩ := q7; exact ⟨x7, σ7, H7, I7.unpinned, r7, q7⟩
end
end L2
namespace L2
open PySem PySem.Spec PyProof.Rows
abbrev R2 := V → V → Hp → VK → Prop
def OpR (X : Cx) (f : Value → Value → Sem Value) (r : R2) : Prop :=
  ∀ (pins : List (Addr × Obj)) (s : Shared) (σ : St) (H : Hp) (x y : V) (v u : Value) (Q : VK), Inv X pins σ H s → RelV x v → RelV y u → r x y H Q →
    wpAny (model X.prog X.w) X.A (f v u) (EP X pins σ Q) X.xe s
def UnR (X : Cx) (f : Value → Sem Value) (r : V → Hp → VK → Prop) : Prop :=
  ∀ (pins : List (Addr × Obj)) (s : Shared) (σ : St) (H : Hp) (x : V) (v : Value) (Q : VK), Inv X pins σ H s → RelV x v → r x H Q →
    wpAny (model X.prog X.w) X.A (f v) (EP X pins σ Q) X.xe s
def CallR (X : Cx) (f : Value) (r : List V → Hp → VK → Prop) : Prop :=
  ∀ (pins : List (Addr × Obj)) (s : Shared) (σ : St) (H : Hp) (xs : List V) (us : List Value) (Q : VK), Inv X pins σ H s → Vals xs us → r xs H Q →
    wpAny (model X.prog X.w) X.A (call f us) (EP X pins σ Q) X.xe s
def tOp (r : R2) (ta tb : TE) : TE := fun σ H Q => ta σ H fun x H1 => tb σ H1 fun y H2 => r x y H2 Q
def tUn (r : V → Hp → VK → Prop) (ta : TE) : TE := fun σ H Q => ta σ H fun x H1 => r x H1 Q
def rI (C : Int → Int → Prop) (g : Int → Int → V) : R2 := fun x y H Q => ∃ i j, x = .int i ∧ y = .int j ∧ C i j ∧ Q (g i j) H
def rI0 (g : Int → Int → V) : R2 := fun x y H Q => ∃ i j, x = .int i ∧ y = .int j ∧ Q (g i j) H
def rU (g : Int → V) : V → Hp → VK → Prop := fun x H Q => ∃ i, x = .int i ∧ Q (g i) H
section
variable {X : Cx} {a b c : Expr} {ta tb tc : TE} {pos : Pos}
theorem binT (ha : PE X a ta) (hb : PE X b tb) {pins : List (Addr × Obj)} {s : Shared} {σ : St} {H : Hp} {R : V → V → Hp → Prop} (I : Inv X pins σ H s)
    (h : ta σ H fun x H1 => tb σ H1 fun y H2 => R x y H2) {Q : Value → Shared → Prop} {f : Value → Value → Sem Value}
    (hf : ∀ v u s2 x y H2, Inv X pins σ H2 s2 → RelV x v → RelV y u → R x y H2 → wpAny (model X.prog X.w) X.A (f v u) Q X.xe s2) :
    wpAny (model X.prog X.w) X.A (eval a X.env) (fun v s₁ => wpAny (model X.prog X.w) X.A (eval b X.env) (fun u s₂ => wpAny (model X.prog X.w) X.A (f v u) Q X.xe s₂) X.xe s₁) X.xe s := by
  refine thn (ha pins s σ H _ I h) fun v s1 ⟨x, H1, I1, r1, q1⟩ => ?_
  refine thn (hb pins s1 σ H1 _ I1 q1) fun u s2 ⟨y, H2, I2, r2, q2⟩ => ?_
  exact hf v u s2 x y H2 I2 r1 r2 q2
theorem pe_un {op : UnaryOp} {r : V → Hp → VK → Prop} (ho : UnR X (unaryOp op) r) (ha : PE X a ta) : PE X (.UnaryOp op a pos) (tUn r ta) := by
  intro pins s σ H Q I h
  exact UnaryOp_ (thn (ha pins s σ H _ I h) fun v s1 ⟨x, H1, I1, r1, q1⟩ => ho pins s1 σ H1 x v Q I1 r1 q1)
theorem opI {f : Value → Value → Sem Value} {C : Int → Int → Prop} {g : Int → Int → Int}
    (rule : ∀ (i j : Int) (t u : Tok) (s : Shared) (Q : Value → Shared → Prop) (E : Value → Shared → Prop), C i j → Q (.int (g i j) s.toks) { s with toks := s.toks + 1 } → wpAny (model X.prog X.w) X.A (f (.int i t) (.int j u)) Q E s) :
    OpR X f (rI C fun i j => .int (g i j)) := by
  intro pins s σ H x y v u Q I rx ry h
  obtain ⟨i, j, rfl, rfl, hc, q⟩ := h
  obtain ⟨t, rfl⟩ := rx
  obtain ⟨t', rfl⟩ := ry
  exact rule i j t t' s _ _ hc ⟨.int (g i j), H, I.tok _, ⟨_, rfl⟩, q⟩
theorem opI0 {f : Value → Value → Sem Value} {g : Int → Int → Int}
    (rule : ∀ (i j : Int) (t u : Tok) (s : Shared) (Q : Value → Shared → Prop) (E : Value → Shared → Prop), Q (.int (g i j) s.toks) { s with toks := s.toks + 1 } → wpAny (model X.prog X.w) X.A (f (.int i t) (.int j u)) Q E s) :
    OpR X f (rI0 fun i j => .int (g i j)) := by
  intro pins s σ H x y v u Q I rx ry h
  obtain ⟨i, j, rfl, rfl, q⟩ := h
  obtain ⟨t, rfl⟩ := rx
  obtain ⟨t', rfl⟩ := ry
  exact rule i j t t' s _ _ ⟨.int (g i j), H, I.tok _, ⟨_, rfl⟩, q⟩
theorem opB0 {f : Value → Value → Sem Value} {g : Int → Int → Bool}
    (rule : ∀ (i j : Int) (t u : Tok) (s : Shared) (Q : Value → Shared → Prop) (E : Value → Shared → Prop), Q (.bool (g i j)) s → wpAny (model X.prog X.w) X.A (f (.int i t) (.int j u)) Q E s) :
    OpR X f (rI0 fun i j => .bl (g i j)) := by
  intro pins s σ H x y v u Q I rx ry h
  obtain ⟨i, j, rfl, rfl, q⟩ := h
  obtain ⟨t, rfl⟩ := rx
  obtain ⟨t', rfl⟩ := ry
  exact rule i j t t' s _ _ ⟨.bl (g i j), H, I, rfl, q⟩
def CDiv (i j : Int) : Prop := 0 < j ∧ j < 1073741824
def CMul (i j : Int) : Prop := (-(2 ^ 64) < i ∧ i < 2 ^ 64) ∨ (-(2 ^ 64) < j ∧ j < 2 ^ 64)
theorem CMul.ok {i j : Int} (h : CMul i j) : IntMulOk i j := by
  rcases h with ⟨h1, h2⟩ | ⟨h1, h2⟩
  · exact .of_left (intBits_le_64 h1 h2)
  · exact .of_right (intBits_le_64 h1 h2)
theorem op_add : OpR X (binaryOp .Add) (rI0 fun i j => .int (i + j)) := opI0 fun _ _ _ _ _ _ _ q => add_int q
theorem op_sub : OpR X (binaryOp .Sub) (rI0 fun i j => .int (i - j)) := opI0 fun _ _ _ _ _ _ _ q => sub_int q
theorem op_mul : OpR X (binaryOp .Mult) (rI CMul fun i j => .int (i * j)) := opI fun _ _ _ _ _ _ _ hc q => mul_int q hc.ok
theorem op_fdiv : OpR X (binaryOp .FloorDiv) (rI CDiv fun i j => .int (i / j)) := opI fun i j _ _ _ _ _ hc q => by
  have h1 : (0 : Int) < j := hc.1
  have h2 : j < 1073741824 := hc.2
  exact floordiv_int (by omega) (by rw [Int.fdiv_eq_ediv_of_nonneg i (by omega)]; exact q) (.inl (PyProof.noPylong_small (by omega)))
theorem op_mod : OpR X (binaryOp .Mod) (rI (fun _ j => 0 < j) fun i j => .int (i % j)) := opI fun i j _ _ _ _ _ hc q => by
  have h1 : (0 : Int) < j := hc
  exact mod_int' (by omega) (by rw [Int.fmod_eq_emod_of_nonneg i (by omega)]; exact q)
theorem unI {f : Value → Sem Value} {g : Int → Int}
    (rule : ∀ (i : Int) (t : Tok) (s : Shared) (Q : Value → Shared → Prop) (E : Value → Shared → Prop), Q (.int (g i) s.toks) { s with toks := s.toks + 1 } → wpAny (model X.prog X.w) X.A (f (.int i t)) Q E s) :
    UnR X f (rU fun i => .int (g i)) := by
  intro pins s σ H x v Q I rx h
  obtain ⟨i, rfl, q⟩ := h
  obtain ⟨t, rfl⟩ := rx
  exact rule i t s _ _ ⟨.int (g i), H, I.tok _, ⟨_, rfl⟩, q⟩
theorem un_neg : UnR X (unaryOp .USub) (rU fun i => .int (-i)) := unI fun _ _ _ _ _ q => neg_int q
end
section
variable {X : Cx} {a b c : Expr} {ta tb tc : TE} {pos : Pos}
theorem op_lt : OpR X (compareOp .Lt) (rI0 fun i j => .bl (decide (i < j))) := opB0 fun _ _ _ _ _ _ _ q => lt_int q
theorem op_le : OpR X (compareOp .LtE) (rI0 fun i j => .bl (decide (i ≤ j))) := opB0 fun _ _ _ _ _ _ _ q => le_int q
theorem op_gt : OpR X (compareOp .Gt) (rI0 fun i j => .bl (decide (j < i))) := opB0 fun _ _ _ _ _ _ _ q => gt_int q
theorem op_ge : OpR X (compareOp .GtE) (rI0 fun i j => .bl (decide (j ≤ i))) := opB0 fun _ _ _ _ _ _ _ q => ge_int q
theorem OpR.or {f : Value → Value → Sem Value} {r r' : R2} (h : OpR X f r) (h' : OpR X f r') : OpR X f (fun x y H Q => r x y H Q ∨ r' x y H Q) := by
  intro pins s σ H x y v u Q I rx ry q
  rcases q with q | q
  · exact h pins s σ H x y v u Q I rx ry q
  · exact h' pins s σ H x y v u Q I rx ry q
theorem nomark (b : Expr) {op : CmpOp} (h : op ≠ .In := by decide) (h2 : op ≠ .NotIn := by decide) : behindInMarks op b = false := by
  have e1 : (op == CmpOp.In) = false := by cases op <;> first | rfl | exact absurd rfl h
  have e2 : (op == CmpOp.NotIn) = false := by cases op <;> first | rfl | exact absurd rfl h2
  cases b <;> simp [behindInMarks, e1, e2]
theorem line63 : (sizeLine : Nat) < 2 ^ 63 := by rw [sizeLine_eq]; decide
theorem vals1 {x : V} {us : List Value} (r : Vals [x] us) : ∃ u, us = [u] ∧ RelV x u := by
  cases r with
  | cons r1 r2 => cases r2; exact ⟨_, rfl, r1⟩
end
end L2
namespace L2
open PySem PySem.Spec PyProof.Rows
structure ObjM (h : Heap) (x dx C : Addr) (mA : Str → Option Value) : Prop where
  obj : h.get? x = some (PySem.W.instObj C dx)
  ns : h.Ns1 dx mA
  ne : dx ≠ x
theorem lookIn_ns {h : Heap} {dx : Addr} {mA : Str → Option Value} (n : h.Ns1 dx mA) : ∃ od, h.get? dx = some od ∧ ∀ name, PySem.W.lookIn name od = some (mA name) := by
  obtain ⟨o, es, ep, ho, hd, hk, _, hm⟩ := n
  refine ⟨o, ho, fun name => ?_⟩
  have e := hm name
  unfold nsFind findBy at e
  rw [← Array.find?_toList] at e
  unfold PySem.W.lookIn
  rw [hd]
  dsimp only
  split
  · rename_i y q
    rw [q] at e
    exact congrArg some e
  · rename_i q
    rw [q] at e
    have a : es.toList.any (·.refKey) = false := by
      rw [List.any_eq_false]
      intro y hy
      obtain ⟨z, t, hkey⟩ := hk y (Array.mem_toList_iff.mp hy)
      simp [DictEntry.refKey, hkey]
    have a' : ¬ es.toList.any (·.refKey) = true := by rw [a]; exact Bool.false_ne_true
    rw [if_neg a']
    exact congrArg some e
theorem ObjM.look {h : Heap} {x dx C : Addr} {mA : Str → Option Value} (I : ObjM h x dx C mA) : ∃ od, PySem.W.InstAt h x (PySem.W.instObj C dx) C (some od) ∧ ∀ name, PySem.W.lookIn name od = some (mA name) :=
  let ⟨od, ho, hl⟩ := lookIn_ns I.ns
  ⟨od, ⟨I.obj, rfl, rfl, ho⟩, hl⟩
section
variable {prog : Program} {w : World} {A : Around} {E : Value → Shared → Prop} {s : Shared} {K : PySem.W.Frag} {x dx C f : Addr} {mA : Str → Option Value} {name : Str} {v : Value}
theorem get_map {expr : Bool} {Q : Value → Shared → Prop} (X : K.In s.heap) (I : ObjM s.heap x dx C mA) (hg : PySem.W.plainGet K C name = true) (hh : PySem.W.hasDictIn K C = true)
    (ha : PySem.W.findIn K (.ref C) name = some none) (hv : mA name = some v) (hv' : PySem.W.handedIn v = true) (h : Q v { s with toks := s.toks + 1 }) :
    wpAny (model prog w) A (getAttr (.ref x) name expr) Q E s := by
  obtain ⟨od, J, hl⟩ := I.look
  exact PySem.W.get_value X J (PySem.W.plainGet_of hg).1 (PySem.W.findObj_own hh ha rfl (by rw [hl, hv])) hv' h
theorem set_map {ns : List Str} {Q : Unit → Shared → Prop} (X : K.In s.heap) (I : ObjM s.heap x dx C mA)
    (hs : PySem.W.findIn K (.ref C) "__setattr__" = some (some (.builtin "object.__setattr__"))) (hp : PySem.W.plainOver K C = true) (ht : PySem.W.takerIn K C name = some none) (hh : PySem.W.hasDictIn K C = true)
    (hw : PySem.Within mA ns) (hsz : ns.length ≤ sizeLine)
    (h : ∀ h', ObjM h' x dx C (fun y => if y = name then some v else mA y) → Heap.SameBut dx s.heap h' → Q () { s with heap := h', toks := s.toks + 2 }) :
    wpAny (model prog w) A (setAttr (.ref x) name v) Q E s := by
  obtain ⟨od, J, hl⟩ := I.look
  refine PySem.W.set_plain X J hs (PySem.W.osa_open (s := { s with toks := s.toks + 1 }) (r := none) X J hp ht fun b => ?_)
  obtain ⟨cd, hc, hd'⟩ := PySem.W.any_some hh
  have hx : s.heap.get? x = some ⟨.ref C, some dx, .plain, #[]⟩ := I.obj
  refine wpAny_bind (wpAny_pure (wpAny_bind (wpAny_bind (wpAny_loadPart hx (wpAny_bind (PySem.W.Looks.here (s := { s with toks := s.toks + 1 }) (PySem.W.looks_clsIn X hc) ?_))))))
  rw [hd']
  refine wpAny_pure (a := some dx) (wpAny_bind (wpAny_pure (wpAny_bind ?_)))
  refine wpAny_nsSet1 (s := { s with toks := s.toks + 1 }) I.ns fun h' hn2 hs2 => ?_
  obtain ⟨oD, esD, epD, hoD, hdD, hcD⟩ := hn2.count (PySem.Within.cons name v hw)
  refine wpAny_bind (wpAny_lookBehind hoD (by rw [hdD]; exact pastItsLine_dict (Nat.le_trans hcD (by rw [List.length_cons]; omega))) ?_)
  exact wpAny_pure (h _ ⟨(hs2.2 _ (Ne.symm I.ne)).trans I.obj, hn2, I.ne⟩ hs2)
theorem make_map {R : Result → Shared → Prop} {vs : List Value} {kw : List (Str × Value)} (X : K.In s.heap) (hm : PySem.W.makesIn K C = true)
    (hi : PySem.W.findIn K (.ref C) "__init__" = some (some (.ref f))) (hf : PySem.W.typeIn K (.ref f) = some (.type "function"))
    (h : codeAny (model prog w) (A.under (.builtin "type.__call__" ⟨.ref C :: vs, kw⟩)) (.call (.ref f) ⟨.ref (s.heap.objs.size + 1) :: vs, kw⟩) (PySem.W.InitBack (s.heap.objs.size + 1) R)
      { s with heap := (s.heap.push PySem.W.emptyDict).push (PySem.W.instObj C s.heap.objs.size) }) :
    codeAny (model prog w) A (.call (.ref C) ⟨vs, kw⟩) R s := by
  obtain ⟨hh, g, d, t, os⟩ := s
  exact PySem.W.make_core (PySem.W.makes_of X hm) (PySem.W.looks_findIn X hi) (fun self => PySem.W.bind_fn X self hf) (.inl rfl) h
end
def putF (f : Str) (v : V) : List (Str × V) → List (Str × V)
  | [] => [(f, v)]
  | (g, x) :: r => if g = f then (g, v) :: r else (g, x) :: putF f v r
theorem lookup_putF (f g : Str) (v : V) : ∀ fs : List (Str × V), (putF f v fs).lookup g = if g = f then some v else fs.lookup g
  | [] => by
    show List.lookup g [(f, v)] = _
    by_cases h : g = f
    · have hb : (g == f) = true := beq_iff_eq.mpr h
      simp only [List.lookup, hb, if_pos h]
    · have hb : (g == f) = false := beq_eq_false_iff_ne.mpr h
      simp only [List.lookup, hb, if_neg h]
  | (k, x) :: r => by
    have ih := lookup_putF f g v r
    rw [show putF f v ((k, x) :: r) = (if k = f then (k, v) :: r else (k, x) :: putF f v r) from rfl]
    by_cases hk : k = f
    · rw [if_pos hk]
      by_cases h : g = k
      · have hb : (g == k) = true := beq_iff_eq.mpr h
        simp only [List.lookup, hb, if_pos (h.trans hk)]
      · have hb : (g == k) = false := beq_eq_false_iff_ne.mpr h
        simp only [List.lookup, hb, if_neg (fun e : g = f => h (e.trans hk.symm))]
    · rw [if_neg hk]
      by_cases h : g = k
      · have hb : (g == k) = true := beq_iff_eq.mpr h
        simp only [List.lookup, hb, if_neg (fun e : g = f => hk (h.symm.trans e))]
      · have hb : (g == k) = false := beq_eq_false_iff_ne.mpr h
        simp only [List.lookup, hb]
        exact ih
theorem keys_putF (f : Str) (v : V) : ∀ fs : List (Str × V), f ∈ (putF f v fs).map (·.1) ∧ ∀ g, g ∈ fs.map (·.1) → g ∈ (putF f v fs).map (·.1)
  | [] => ⟨by simp [putF], fun g h => by simp at h⟩
  | (k, x) :: r => by
    obtain ⟨i1, i2⟩ := keys_putF f v r
    rw [show putF f v ((k, x) :: r) = (if k = f then (k, v) :: r else (k, x) :: putF f v r) from rfl]
    by_cases hk : k = f
    · rw [if_pos hk]
      subst hk
      exact ⟨by simp, fun g h => by simpa using h⟩
    · rw [if_neg hk]
      refine ⟨?_, fun g h => ?_⟩
      · rw [List.map_cons]
        exact List.mem_cons_of_mem _ i1
      · rw [List.map_cons] at h ⊢
        rcases List.mem_cons.mp h with e | e
        · exact List.mem_cons.mpr (.inl e)
        · exact List.mem_cons_of_mem _ (i2 g e)
theorem length_putF (f : Str) (v : V) : ∀ fs : List (Str × V), (putF f v fs).length ≤ fs.length + 1
  | [] => by simp [putF]
  | (k, x) :: r => by
    have ih := length_putF f v r
    rw [show putF f v ((k, x) :: r) = (if k = f then (k, v) :: r else (k, x) :: putF f v r) from rfl]
    by_cases hk : k = f
    · rw [if_pos hk, List.length_cons, List.length_cons]; omega
    · rw [if_neg hk, List.length_cons, List.length_cons]; omega
theorem RelO.some_of {v : V} {o : Option Value} (r : RelO (some v) o) : ∃ u, o = some u ∧ RelV v u := by
  cases o with
  | none => exact (show False from r).elim
  | some u => exact ⟨u, rfl, r⟩
theorem handed_of {v : V} {u : Value} (r : RelV v u) : PySem.W.handedIn u = true := by
  cases v with
  | non => cases (show u = Value.none from r); rfl
  | bl b => cases (show u = Value.bool b from r); rfl
  | int i => obtain ⟨t, e⟩ := (show ∃ t, u = Value.int i t from r); cases e; rfl
  | str x => obtain ⟨t, e⟩ := (show ∃ t, u = Value.str x t from r); cases e; rfl
  | byt b => obtain ⟨t, e⟩ := (show ∃ t, u = Value.bytes b t from r); cases e; rfl
  | flt b => obtain ⟨t, e⟩ := (show ∃ t, u = Value.float b t from r); cases e; rfl
  | ref a => cases (show u = Value.ref a from r); rfl
  | ty n => cases (show u = Value.type n from r); rfl
section
variable {P : Program} {w : World} {H H' : Hp} {h h' : Heap} {a C dx : Addr} {fs fs' : List (Str × V)}
theorem ins_get (hok : HOk P w H h) (e : H a = some (.ins C dx fs)) : ∃ mA, ObjM h a dx C mA ∧ (∀ f, RelO (fs.lookup f) (mA f)) ∧ PySem.Within mA (fs.map (·.1)) ∧ fs.length ≤ 1000 ∧ H dx = some (.own a) := by
  obtain ⟨d, z, ne, ob, mA, n, r, q⟩ := (show ObjOk P w H h a (.ins C dx fs) from hok a _ e)
  exact ⟨mA, ⟨ob, n, ne⟩, r, q, z, d⟩
end
structure Cls (K : PySem.W.Frag) (C : Addr) : Prop where
  pg : PySem.W.plainGet K C Str.empty = true
  hd : PySem.W.hasDictIn K C = true
  po : PySem.W.plainOver K C = true
  sa : PySem.W.findIn K (.ref C) "__setattr__" = some (some (.builtin "object.__setattr__"))
theorem Cls.get {K : PySem.W.Frag} {C : Addr} (c : Cls K C) (f : Str) : PySem.W.plainGet K C f = true := c.pg
def NoAttr (K : PySem.W.Frag) (C : Addr) (f : Str) : Prop := PySem.W.findIn K (.ref C) f = some none
theorem NoAttr.taker {K : PySem.W.Frag} {C : Addr} {f : Str} (n : NoAttr K C f) : PySem.W.takerIn K C f = some none := by
  unfold PySem.W.takerIn
  rw [show PySem.W.findIn K (.ref C) f = some none from n]
  rfl
section
variable {X : Cx} {pins : List (Addr × Obj)} {σ : St} {H : Hp} {s : Shared} {a C dx : Addr} {fs : List (Str × V)} {f : Str} {v : V} {A : Around} {E : Value → Shared → Prop}
theorem getattr_ok {b : Bool} {Q : Value → Shared → Prop} (I : Inv X pins σ H s) (e : H a = some (.ins C dx fs)) (c : Cls X.K C) (n : NoAttr X.K C f) (l : fs.lookup f = some v)
    (h : ∀ u s', Inv X pins σ H s' → RelV v u → Q u s') : wpAny (model X.prog X.w) A (getAttr (.ref a) f b) Q E s := by
  obtain ⟨mA, O, r, _, _, _⟩ := ins_get I.hok e
  obtain ⟨u, hu, ru⟩ := RelO.some_of (v := v) (o := mA f) (by rw [← l]; exact r f)
  exact get_map I.kIn O (c.get f) c.hd n hu (handed_of ru) (h u _ (I.tok _) ru)
theorem setattr_ok {y : V} {u : Value} {Q : Unit → Shared → Prop} (I : Inv X pins σ H s) (e : H a = some (.ins C dx fs)) (c : Cls X.K C) (n : NoAttr X.K C f) (hl : fs.length < 1000) (ry : RelV y u)
    (h : ∀ s', Inv X pins σ (upd H a (.ins C dx (putF f y fs))) s' → Q () s') : wpAny (model X.prog X.w) A (setAttr (.ref a) f u) Q E s := by
  obtain ⟨mA, O, r, wi, _, ho⟩ := ins_get I.hok e
  have hz : (fs.map (·.1)).length ≤ sizeLine := by rw [List.length_map, sizeLine_eq]; omega
  refine set_map I.kIn O c.sa c.po n.taker c.hd wi hz fun h' O' sb => h _ ?_
  have hd : ∃ o, h'.get? dx = some o := let ⟨o, _, _, e', _⟩ := O'.ns; ⟨o, e'⟩
  refine I.write (x := a) (e := dx) (by rw [e]; exact True.intro) (.inr ho) (fun b q hb z => (sb.2 b hb).trans z) hd ?_
  refine ⟨by rw [upd_ne O.ne]; exact ho, ?_, O.ne, O'.obj, _, O'.ns, fun g => ?_, fun g hg => ?_⟩
  · have := length_putF f y fs; omega
  · show RelO ((putF f y fs).lookup g) (if g = f then some u else mA g)
    rw [lookup_putF]
    by_cases q : g = f
    · rw [if_pos q, if_pos q]; exact ry
    · rw [if_neg q, if_neg q]; exact r g
  · by_cases q : g = f
    · rw [q]; exact (keys_putF f y fs).1
    · refine (keys_putF f y fs).2 g (wi g fun z => hg ?_)
      show (if g = f then some u else mA g) = none
      rw [if_neg q]; exact z
theorem Inv.made (I : Inv X pins σ H s) : Inv X pins σ (upd (upd H s.heap.objs.size (.own (s.heap.objs.size + 1))) (s.heap.objs.size + 1) (.ins C s.heap.objs.size []))
    { s with heap := (s.heap.push PySem.W.emptyDict).push (PySem.W.instObj C s.heap.objs.size) } := by
  have e1 : (s.heap.push PySem.W.emptyDict).get? s.heap.objs.size = some PySem.W.emptyDict := Heap.get?_push_size s.heap rfl
  have e2 : ((s.heap.push PySem.W.emptyDict).push (PySem.W.instObj C s.heap.objs.size)).get? (s.heap.objs.size + 1) = some (PySem.W.instObj C s.heap.objs.size) := by
    have := Heap.get?_push_size (s.heap.push PySem.W.emptyDict) (o := PySem.W.instObj C s.heap.objs.size) rfl
    rwa [Heap.size_push] at this
  have e3 : (s.heap.push PySem.W.emptyDict).Ns s.heap.objs.size (fun _ => none) := ⟨PySem.W.emptyDict, #[], _, e1, rfl, (fun e he => absurd he (by simp)), fun _ => rfl⟩
  have I1 := I.laid (a := s.heap.objs.size) (o := .own (s.heap.objs.size + 1)) (h' := s.heap.push PySem.W.emptyDict) (t' := s.toks) (fun b u q => Heap.get?_push_of_some _ q) (Nat.le_refl _) ⟨_, e1⟩
  refine I1.laid (a := s.heap.objs.size + 1) (o := .ins C s.heap.objs.size []) (t' := s.toks) (fun b u q => Heap.get?_push_of_some _ q) (Nat.le_of_eq (Heap.size_push _ _)) ?_
  have ne : s.heap.objs.size ≠ s.heap.objs.size + 1 := Nat.ne_of_lt (Nat.lt_succ_self _)
  refine ⟨by rw [upd_ne ne, upd_same], Nat.zero_le _, ne, e2, fun _ => none, (Heap.Ns1.of_empty e3).at fun o q => Heap.get?_push_of_some _ q, fun _ => True.intro, fun y hy => absurd rfl hy⟩
theorem attr_of {prog : Program} {w : World} {env : Env} {e : Expr} {f : Str} {pos : Pos} {s : Shared} {Q : Value → Shared → Prop} (hb : attributeBase e f env (eval e env) = eval e env)
    (h : wpAny (model prog w) A (eval e env) (fun o s₁ => wpAny (model prog w) A (getAttr o f true) Q E s₁) E s) : wpAny (model prog w) A (eval (.Attribute e f pos) env) Q E s :=
  Attribute_any_ h (by rw [arm_eval_Attribute, hb])
end
def tFld (K : PySem.W.Frag) (ta : TE) (f : Str) : TE := fun σ H Q => ta σ H fun x H1 => ∃ a C dx fs v, x = .ref a ∧ H1 a = some (.ins C dx fs) ∧ Cls K C ∧ NoAttr K C f ∧ fs.lookup f = some v ∧ Q v H1
def sFld (K : PySem.W.Frag) (ta tv : TE) (f : Str) : TS := fun D σ H => tv σ H fun y H1 => ta σ H1 fun x H2 => ∃ a C dx fs, x = .ref a ∧ H2 a = some (.ins C dx fs) ∧ Cls K C ∧ NoAttr K C f ∧ fs.length < 1000 ∧
  D.nx σ (upd H2 a (.ins C dx (putF f y fs)))
section
variable {X : Cx} {o e value : Expr} {f : Str} {pos pos' tpos : Pos} {ta tv : TE}
theorem pe_fld (he : PE X e ta) (hb : attributeBase e f X.env (eval e X.env) = eval e X.env) : PE X (.Attribute e f pos) (tFld X.K ta f) := by
  intro pins s σ H Q I h
  refine attr_of hb (thn (he pins s σ H _ I h) fun u s1 ⟨x, H1, I1, rx, a, C, dx, fs, v, ex, ea, c, n, l, q⟩ => ?_)
  subst ex
  obtain rfl : u = Value.ref a := rx
  exact getattr_ok I1 ea c n l fun u' s2 I2 ru => ⟨v, H1, I2, ru, q⟩
theorem ps_fld (ha : PE X o ta) (hv : PE X value tv) (hs : swapsWith value (some (.Attribute o f pos')) pos.line X.env = pure false) : PS X (.Assign [.Attribute o f pos'] value pos) (sFld X.K ta tv f) := by
  intro pins s σ H D I h
  refine plainObj_wpAny_Assign_Attribute (thn (hv pins s σ H _ I h) fun u s1 ⟨y, H1, I1, ry, q⟩ => thn (ha pins s1 σ H1 _ I1 q) fun ov s2 ⟨x, H2, I2, rx, a, C, dx, fs, ex, ea, c, n, l, q2⟩ => ?_) hs
  subst ex
  obtain rfl : ov = Value.ref a := rx
  exact setattr_ok I2 ea c n l ry fun s3 I3 => ⟨σ, _, I3, q2⟩
end
section
variable {X : Cx} {pins : List (Addr × Obj)} {σ : St} {H : Hp} {s : Shared} {A : Around} {E : Value → Shared → Prop} {Q : Value → Shared → Prop} {c : Value} {b : Bool}
inductive TyOf (K : PySem.W.Frag) (H : Hp) : V → Value → Prop where
  | non : TyOf K H .non (.type "NoneType")
  | bl (x : Bool) : TyOf K H (.bl x) (.type "bool")
  | int (i : Int) : TyOf K H (.int i) (.type "int")
  | str (x : Str) : TyOf K H (.str x) (.type "str")
  | flt (x : UInt64) : TyOf K H (.flt x) (.type "float")
  | lst {a : Addr} {xs : List V} (e : H a = some (.lst xs)) : TyOf K H (.ref a) (.type "list")
  | frz {a : Addr} {o : Obj} {xs : List V} (e : H a = some (.frz o (.lst xs))) : TyOf K H (.ref a) (.type "list")
  | tup {a : Addr} {xs : List V} (e : H a = some (.tup xs)) : TyOf K H (.ref a) (.type "tuple")
  | dK {a : Addr} {kvs : List (Key × V)} (e : H a = some (.dK kvs)) : TyOf K H (.ref a) (.type "dict")
  | dT {a : Addr} {kvs : List (List Key × V)} (e : H a = some (.dT kvs)) : TyOf K H (.ref a) (.type "dict")
  | ins {a C dx : Addr} {fs : List (Str × V)} (e : H a = some (.ins C dx fs)) (cl : Cls K C) (ha : PySem.W.findIn K (.ref C) "__class__" = some (some (.builtin "object.__class__")))
      (hn : PySem.W.specialIn K (.builtin "object.__class__") "__get__" = some (some (.builtin "getset_descriptor.__get__"))) (htk : PySem.W.takesIn K (.builtin "object.__class__") = some true)
      (hm : PySem.W.mroIn K C (.type "object") = some true) : TyOf K H (.ref a) (.ref C)
theorem isinst_ok {x : V} {u t : Value} (I : Inv X pins σ H s) (rx : RelV x u) (ty : TyOf X.K H x t) (e : PySem.W.kitOne X.K t c = some b) (h : ∀ tk, Q (.bool b) { s with toks := tk }) :
    wpAny (model X.prog X.w) A (call (.builtin "isinstance") [u, c]) Q E s := by
  cases ty with
  | non => cases (show u = Value.none from rx); exact PySem.W.kia_one PySem.W.kitx_none I.kIn True.intro e (fun z => nomatch z) h
  | bl y => cases (show u = Value.bool y from rx); exact PySem.W.kia_one PySem.W.kitx_bool I.kIn True.intro e (fun z => nomatch z) h
  | int i => obtain ⟨t, q⟩ := (show ∃ t, u = Value.int i t from rx); cases q; exact PySem.W.kia_one PySem.W.kitx_int I.kIn True.intro e (fun z => nomatch z) h
  | str y => obtain ⟨t, q⟩ := (show ∃ t, u = Value.str y t from rx); cases q; exact PySem.W.kia_one PySem.W.kitx_str I.kIn True.intro e (fun z => nomatch z) h
  | flt y => obtain ⟨t, q⟩ := (show ∃ t, u = Value.float y t from rx); cases q; exact PySem.W.kia_one PySem.W.kitx_float I.kIn True.intro e (fun z => nomatch z) h
  | @lst a xs ea =>
    cases (show u = Value.ref a from rx)
    obtain ⟨_, _, n, _, h1⟩ := (show ObjOk X.prog X.w H s.heap a (.lst xs) from I.hok a _ ea)
    exact PySem.W.kia_one PySem.W.kitx_list I.kIn ⟨_, h1, rfl⟩ e (fun z => nomatch z) h
  | @frz a ob xs ea =>
    cases (show u = Value.ref a from rx)
    obtain ⟨_, _, _, n, _, h1⟩ := (show ObjOk X.prog X.w H s.heap a (.frz ob (.lst xs)) from I.hok a _ ea)
    exact PySem.W.kia_one PySem.W.kitx_list I.kIn ⟨_, h1, rfl⟩ e (fun z => nomatch z) h
  | @tup a xs ea =>
    cases (show u = Value.ref a from rx)
    obtain ⟨_, _, _, p⟩ := (show ObjOk X.prog X.w H s.heap a (.tup xs) from I.hok a _ ea)
    obtain ⟨o, h1, h2, _⟩ := p
    exact PySem.W.kia_one PySem.W.kitx_tuple I.kIn ⟨o, h1, h2⟩ e (fun z => nomatch z) h
  | @dK a kvs ea =>
    cases (show u = Value.ref a from rx)
    obtain ⟨_, _, vs, _, p⟩ := (show ObjOk X.prog X.w H s.heap a (.dK kvs) from I.hok a _ ea)
    obtain ⟨o, es, ep, h1, h2, _⟩ := p
    exact PySem.W.kia_one PySem.W.kitx_dict I.kIn ⟨o, h1, h2.1⟩ e (fun z => nomatch z) h
  | @dT a kvs ea =>
    cases (show u = Value.ref a from rx)
    obtain ⟨_, _, xs, _, o, es, ep, h1, h2, _⟩ := (show ObjOk X.prog X.w H s.heap a (.dT kvs) from I.hok a _ ea)
    exact PySem.W.kia_one PySem.W.kitx_dict I.kIn ⟨o, h1, h2.1⟩ e (fun z => nomatch z) h
  | @ins a C dx fs ea cl ha hn htk hm =>
    cases (show u = Value.ref a from rx)
    obtain ⟨mA, O, _⟩ := ins_get I.hok ea
    obtain ⟨od, J, _⟩ := O.look
    exact PySem.W.kia_one (PySem.W.kitx_own (cl.get _) cl.hd ha hn htk hm) I.kIn J e (fun z => nomatch z) h
end
end L2
namespace L2
open PySem PySem.Spec PyProof.Rows
structure Room (k : Nat) (A : Around) : Prop where
  hd : A.handled = none
  dp : A.depth + 3 * k + 5 < recursionLimit
  un : A.units + 16 * k + 200 < cLine
theorem Room.mono {j k : Nat} {A : Around} (r : Room k A) (h : j ≤ k) : Room j A := ⟨r.hd, by have := r.dp; omega, by have := r.un; omega⟩
theorem Room.deeper {k : Nat} {A : Around} (r : Room (k + 1) A) (env : Env) : Room k (A.deeper env) :=
  ⟨r.hd, by have := r.dp; show A.depth + 1 + 3 * k + 5 < _; omega, by have := r.un; show A.units + 3 + 16 * k + 200 < _; omega⟩
theorem Room.in1 {k : Nat} {A : Around} (r : Room (k + 1) A) : Room k A.in1 :=
  ⟨r.hd, by have := r.dp; show A.depth + 3 * k + 5 < _; omega, by have := r.un; show A.units + 1 + 16 * k + 200 < _; omega⟩
theorem make_depth {A : Around} {C : Addr} {us : List Value} {kw : List (Str × Value)} : (A.under (.builtin "type.__call__" ⟨.ref C :: us, kw⟩)).depth = A.depth + 1 := by
  first | rfl | simp [Around.under, Code.weight, Code.isCreation, Code.isGuard, Code.isCaller, Code.frames, Code.isFrame, guardIds]
theorem make_units {A : Around} {C : Addr} {us : List Value} {kw : List (Str × Value)} : (A.under (.builtin "type.__call__" ⟨.ref C :: us, kw⟩)).units = A.units + 1 := by
  first | rfl | simp [Around.under, Code.cUnits, Code.frames, Code.isFrame]
theorem Room.make {k : Nat} {A : Around} (r : Room (k + 1) A) (C : Addr) (us : List Value) (kw : List (Str × Value)) : Room k (A.under (.builtin "type.__call__" ⟨.ref C :: us, kw⟩)) :=
  ⟨r.hd, by have := r.dp; rw [make_depth]; omega, by have := r.un; rw [make_units]; omega⟩
theorem Room.depth {k : Nat} {A : Around} (r : Room k A) : A.depth < recursionLimit := by have := r.dp; omega
theorem Room.units {k : Nat} {A : Around} (r : Room k A) : A.units + 64 < cLine := by have := r.un; omega
def tNil : TA := fun _ H Q => Q [] H
def tCons (ta : TE) (tr : TA) : TA := fun σ H Q => ta σ H fun x H1 => tr σ H1 fun xs H2 => Q (x :: xs) H2
section
variable {X : Cx} {e : Expr} {es : List Expr} {te : TE} {t : TA} {pos : Pos}
theorem pa_nil : PA X [] tNil := fun _ _ _ _ H Q I h => Calls.spliced_nil ⟨[], H, I, .nil, h⟩
theorem pa_cons (ha : PE X e te) (hr : PA X es t) (hs : starEach (e :: es) X.env = (false, eval e X.env) :: starEach es X.env := by rfl) : PA X (e :: es) (tCons te t) := by
  intro pos pins s σ H Q I h
  rw [hs]
  show wpAny _ _ (spliced ((false, eval e X.env) :: backTo pos (starEach es X.env))) _ _ s
  refine Calls.spliced_cons (thn (ha pins s σ H _ I h) fun u s1 ⟨x, H1, I1, r1, q1⟩ => ?_)
  exact thn (hr pos pins s1 σ H1 _ I1 q1) fun us s2 ⟨xs, H2, I2, r2, q2⟩ => ⟨x :: xs, H2, I2, .cons r1 r2, q2⟩
def tTup (t : TA) : TE := fun σ H Q => t σ H fun xs H1 => xs.length ≤ sizeLine ∧ ∀ p, H1 p = none → Q (.ref p) (upd H1 p (.tup xs))
def tLst (t : TA) : TE := fun σ H Q => t σ H fun xs H1 => xs.length ≤ sizeLine ∧ ∀ p, H1 p = none → Q (.ref p) (upd H1 p (.lst xs))
theorem pe_tup {x1} (h : PA X es t) : PE X (.Tuple es x1 pos) (tTup t) := by
  intro pins s σ H Q I hq
  refine wpAny_Tuple_spliced (thn (h pos pins s σ H _ I hq) fun us s1 ⟨xs, H1, I1, r, z, q⟩ => ⟨by rw [← r.length]; exact z, ?_⟩)
  have hf : H1 s1.heap.objs.size = none := I1.hok.fresh (Nat.le_refl _)
  refine ⟨.ref s1.heap.objs.size, upd H1 s1.heap.objs.size (.tup xs), I1.laid (t' := s1.toks) (fun b u e => Heap.get?_push_of_some _ e) (Nat.le_refl _) ?_, rfl, q _ hf⟩
  exact ⟨z, us, r, ⟨_, Heap.get?_push_size _ rfl, rfl, _, rfl⟩⟩
theorem pe_lst (h : PA X es t) : PE X (.List es pos) (tLst t) := by
  intro pins s σ H Q I hq
  refine wpAny_List_spliced (thn (h pos pins s σ H _ I hq) fun us s1 ⟨xs, H1, I1, r, z, q⟩ => ⟨by rw [← r.length]; exact z, ?_⟩)
  have hf : H1 s1.heap.objs.size = none := I1.hok.fresh (Nat.le_refl _)
  refine ⟨.ref s1.heap.objs.size, upd H1 s1.heap.objs.size (.lst xs), I1.laid (t' := s1.toks) (fun b u e => Heap.get?_push_of_some _ e) (Nat.le_refl _) ?_, rfl, q _ hf⟩
  exact ⟨z, us, 0, r, Heap.get?_push_size _ rfl⟩
end
abbrev Sp := List V → Hp → VK → XK → Prop
abbrev CXT := List Env → Hp → Shared → XK → Value → Shared → Prop
structure Env0 (P : Program) (w : World) (K : PySem.W.Frag) (mg : Str → Option Value) (base : Heap) (A : Around) (outer : List Env) (s : Shared) (H : Hp) : Prop where
  frames : A.frames = some outer
  mod : Mod K mg base
  bs : ∀ b o, base.get? b = some o → s.heap.get? b = some o ∧ H b = none
  bsz : base.objs.size ≤ s.heap.objs.size
  funs : s.heap.FunFrames base outer
  frf : ∀ b ∈ frs outer, H b = none
  hok : HOk P w H s.heap
  bare : AllBare s.gens
def CE (outer : List Env) (P : Program) (w : World) (H : Hp) (s : Shared) (Q : VK) (u : Value) (s' : Shared) : Prop :=
  ∃ v H', s'.os = s.os ∧ AllBare s'.gens ∧ Un (frs outer) [] H H' s.heap s'.heap ∧ HOk P w H' s'.heap ∧ RelV v u ∧ Q v H'
def CR (CX : CXT) (outer : List Env) (P : Program) (w : World) (H : Hp) (s : Shared) (Q : VK) (E : XK) (r : Result) (s' : Shared) : Prop :=
  match r with
  | .ok (.ret u) => CE outer P w H s Q u s'
  | .ok _ => False
  | .error e => CX outer H s E e s'
structure FnOk (P : Program) (w : World) (K : PySem.W.Frag) (mg : Str → Option Value) (base : Heap) (CX : CXT) (k : Nat) (f : Addr) (fd : FuncData) (ps : List Str) (sp : Sp) : Prop where
  len : ∀ vs H Q E, sp vs H Q E → vs.length = ps.length
  run : ∀ (A : Around) (outer : List Env) (s : Shared) (H : Hp) (args : Args) (us : List Value) (vs : List V) (Q : VK) (E : XK), Room k A → Env0 P w K mg base A outer s H → BindsTo s fd args (ps.zip us) → Vals vs us → sp vs H Q E →
    codeAny (model P w) A (.call (.ref f) args) (CR CX outer P w H s Q E) s
theorem FnOk.mono {P : Program} {w : World} {K : PySem.W.Frag} {mg : Str → Option Value} {base : Heap} {CX : CXT} {j k : Nat} {f : Addr} {fd : FuncData} {ps : List Str} {sp : Sp} (F : FnOk P w K mg base CX j f fd ps sp) (h : j ≤ k) :
    FnOk P w K mg base CX k f fd ps sp := ⟨F.len, fun A outer s H args us vs Q E hr => F.run A outer s H args us vs Q E (hr.mono h)⟩
theorem FnOk.imp {P : Program} {w : World} {K : PySem.W.Frag} {mg : Str → Option Value} {base : Heap} {CX : CXT} {k : Nat} {f : Addr} {fd : FuncData} {ps : List Str} {sp sp' : Sp} (F : FnOk P w K mg base CX k f fd ps sp)
    (h : ∀ vs H Q E, sp' vs H Q E → sp vs H Q E) : FnOk P w K mg base CX k f fd ps sp' :=
  ⟨fun vs H Q E q => F.len vs H Q E (h _ _ _ _ q), fun A outer s H args us vs Q E hr he hb hv hs => F.run A outer s H args us vs Q E hr he hb hv (h _ _ _ _ hs)⟩
theorem Env0.make {P : Program} {w : World} {K : PySem.W.Frag} {mg : Str → Option Value} {base : Heap} {A : Around} {outer : List Env} {s : Shared} {H : Hp} (e : Env0 P w K mg base A outer s H) (C : Addr) (us : List Value) (kw : List (Str × Value)) :
    Env0 P w K mg base (A.under (.builtin "type.__call__" ⟨.ref C :: us, kw⟩)) outer s H := ⟨by first | exact e.frames | (simpa [Around.under, Code.envs, Code.isFrame, pushEnvs] using e.frames), e.mod, e.bs, e.bsz, e.funs, e.frf, e.hok, e.bare⟩
theorem Env0.in1 {P : Program} {w : World} {K : PySem.W.Frag} {mg : Str → Option Value} {base : Heap} {A : Around} {outer : List Env} {s : Shared} {H : Hp} (e : Env0 P w K mg base A outer s H) :
    Env0 P w K mg base A.in1 outer s H := ⟨e.frames, e.mod, e.bs, e.bsz, e.funs, e.frf, e.hok, e.bare⟩
section
variable {X : Cx} {pins : List (Addr × Obj)} {σ : St} {H : Hp} {s s' : Shared}
theorem Inv.env0 (I : Inv X pins σ H s) : Env0 X.prog X.w X.K X.mg X.base X.A X.stack s H :=
  ⟨I.ok.frames, I.ok.mod, I.bs, Nat.le_trans I.ok.bsz I.sz, I.stack, I.stkFree, I.hok, I.bare⟩
theorem Inv.after {Q : VK} {u : Value} (I : Inv X pins σ H s) (h : CE X.stack X.prog X.w H s Q u s') : EP X pins σ Q u s' := by
  obtain ⟨v, H', os, bare, un, hok, r, q⟩ := h
  obtain ⟨hh, g, d, t, os'⟩ := s'
  obtain rfl : os' = s.os := os
  exact ⟨v, H', I.call (h' := hh) (g' := g) (d' := d) (t' := t) (ch := []) un hok bare (fun b z => absurd z (by simp)), r, q⟩
end
def tCall (sp : Sp) (dvs : List V) (E : XK) (t : TA) : TE := fun σ H Q => t σ H fun vs H1 => sp (vs ++ dvs) H1 Q E
def tMake (C : Addr) (sp : Sp) (dvs : List V) (E : XK) (t : TA) : TE := fun σ H Q => t σ H fun vs H1 => ∀ x dx, H1 x = none → H1 dx = none → dx ≠ x →
  sp (.ref x :: (vs ++ dvs)) (upd (upd H1 dx (.own x)) x (.ins C dx [])) (fun v H2 => v = .non ∧ Q (.ref x) H2) E
def Binds (K : PySem.W.Frag) (fd : FuncData) (ps : List Str) (ds : List Value) : Prop :=
  ∀ (s : Shared) (us : List Value), K.In s.heap → (us ++ ds).length = ps.length → BindsTo s fd ⟨us, []⟩ (ps.zip (us ++ ds))
theorem Binds.all {K : PySem.W.Frag} {fd : FuncData} {ps : List Str} (h : ∀ us : List Value, us.length = ps.length → bindArgs fd ⟨us, []⟩ = pure (ps.zip us)) : Binds K fd ps [] := fun s us _ hl => by
  rw [List.append_nil] at hl ⊢
  exact .of_eq (h us hl)
def Passes (CX : CXT) (X : Cx) (E : XK) : Prop := ∀ (pins : List (Addr × Obj)) (σ : St) (H : Hp) (s : Shared) (e : Value) (s' : Shared), Inv X pins σ H s → CX X.stack H s E e s' → X.xe e s'
section
variable {X : Cx} {CX : CXT} {k : Nat} {f C : Addr} {fd : FuncData} {ps : List Str} {sp : Sp} {dvs : List V} {ds : List Value} {E : XK} {x m : Str} {p pos apos : Pos} {e o : Expr} {es : List Expr} {ta : TE} {t : TA}
theorem run_fn {pins : List (Addr × Obj)} {σ : St} {H : Hp} {s : Shared} {Q : VK} {us : List Value} {vs : List V} (F : FnOk X.prog X.w X.K X.mg X.base CX k f fd ps sp) (hr : Room k X.A) (hb : Binds X.K fd ps ds) (hd : Vals dvs ds) (hx : Passes CX X E)
    (I : Inv X pins σ H s) (r : Vals vs us) (h : sp (vs ++ dvs) H Q E) : wpAny (model X.prog X.w) X.A (call (.ref f) us) (EP X pins σ Q) X.xe s := by
  have r2 : Vals (vs ++ dvs) (us ++ ds) := r.append hd
  have hl : (us ++ ds).length = ps.length := by rw [← r2.length]; exact F.len _ _ _ _ h
  refine wpAny_call (codeAny_mono (F.run X.A X.stack s H ⟨us, []⟩ (us ++ ds) (vs ++ dvs) Q E hr I.env0 (hb s us I.kIn hl) r2 h) fun r s' hq => ?_)
  cases r with
  | error e => exact hx pins σ H s e s' I hq
  | ok fl =>
    cases fl with
    | ret u => exact I.after hq
    | next => exact False.elim hq
    | brk => exact False.elim hq
    | cont => exact False.elim hq
theorem pe_call (F : FnOk X.prog X.w X.K X.mg X.base CX k f fd ps sp) (hr : Room k X.A) (hg : Gl X x) (hm : X.mg x = some (.ref f)) (hk : PySem.W.keepIn X.K (.ref f) = true) (hb : Binds X.K fd ps ds) (hd : Vals dvs ds) (hx : Passes CX X E)
    (ha : PA X (e :: es) t) (hdb : (x == ("__debug__" : Str)) = false := by decide) (he : starEach (e :: es) X.env = (false, eval e X.env) :: starEach es X.env := by rfl) (hpl : (backTo pos (starEach es X.env)).any (·.1) = false := by rfl) :
    PE X (.Call (.Name x p) (e :: es) [] pos) (tCall sp dvs E t) := by
  intro pins s σ H Q I h
  refine wpAny_Call_Name_kw (ld_glob I hg hm ?_ hdb)
  refine PySem.W.callWith_K (h₀ := X.base) I.ok.mod.kin hk (thn (ha pos pins s σ H _ I h) fun us s1 ⟨vs, H1, I1, r, q⟩ => ⟨I1.kIn, ?_⟩) he hpl
  exact run_fn F hr hb hd hx I1 r q
structure Mk (K : PySem.W.Frag) (C f : Addr) : Prop where
  makes : PySem.W.makesIn K C = true
  init : PySem.W.findIn K (.ref C) "__init__" = some (some (.ref f))
  fn : PySem.W.isFn K (.ref f) = true
  kp : PySem.W.keepIn K (.ref C) = true
theorem run_make {pins : List (Addr × Obj)} {σ : St} {H : Hp} {s : Shared} {Q : VK} {us : List Value} {vs : List V} (M : Mk X.K C f) (F : FnOk X.prog X.w X.K X.mg X.base CX k f fd ps sp) (hr : Room (k + 1) X.A) (hb : Binds X.K fd ps ds) (hd : Vals dvs ds)
    (hx : Passes CX X E) (I : Inv X pins σ H s) (r : Vals vs us)
    (h : ∀ x dx, H x = none → H dx = none → dx ≠ x → sp (.ref x :: (vs ++ dvs)) (upd (upd H dx (.own x)) x (.ins C dx [])) (fun v H2 => v = .non ∧ Q (.ref x) H2) E) :
    wpAny (model X.prog X.w) X.A (call (.ref C) us) (EP X pins σ Q) X.xe s := by
  have hq := h (s.heap.objs.size + 1) s.heap.objs.size (I.hok.fresh (Nat.le_succ _)) (I.hok.fresh (Nat.le_refl _)) (Nat.ne_of_lt (Nat.lt_succ_self _))
  have I2 := Inv.made (C := C) I
  have r2 : Vals (V.ref (s.heap.objs.size + 1) :: (vs ++ dvs)) (Value.ref (s.heap.objs.size + 1) :: (us ++ ds)) := .cons rfl (r.append hd)
  have hl : (Value.ref (s.heap.objs.size + 1) :: us ++ ds).length = ps.length := by
    have e := r2.length
    rw [F.len _ _ _ _ hq] at e
    exact e.symm
  refine wpAny_call (make_map (f := f) I.kIn M.makes M.init (beq_iff_eq.mp M.fn) (codeAny_mono (F.run _ X.stack _ _ ⟨Value.ref (s.heap.objs.size + 1) :: us, []⟩ (Value.ref (s.heap.objs.size + 1) :: (us ++ ds)) _ _ E (hr.make C us [])
    (I2.env0.make C us []) (hb _ (Value.ref (s.heap.objs.size + 1) :: us) I2.kIn hl) r2 hq) fun r s' hq' => ?_))
  cases r with
  | error e => exact hx pins σ _ _ e s' I2 hq'
  | ok fl =>
    cases fl with
    | ret u =>
      obtain ⟨v, H', I3, rv, ev, q3⟩ := I2.after hq'
      subst ev
      exact ⟨rv, ⟨V.ref (s.heap.objs.size + 1), H', I3, rfl, q3⟩⟩
    | next => exact False.elim hq'
    | brk => exact False.elim hq'
    | cont => exact False.elim hq'
theorem pe_make (M : Mk X.K C f) (F : FnOk X.prog X.w X.K X.mg X.base CX k f fd ps sp) (hr : Room (k + 1) X.A) (hg : Gl X x) (hm : X.mg x = some (.ref C)) (hb : Binds X.K fd ps ds) (hd : Vals dvs ds) (hx : Passes CX X E)
    (ha : PA X (e :: es) t) (hdb : (x == ("__debug__" : Str)) = false := by decide) (he : starEach (e :: es) X.env = (false, eval e X.env) :: starEach es X.env := by rfl) (hpl : (backTo pos (starEach es X.env)).any (·.1) = false := by rfl) :
    PE X (.Call (.Name x p) (e :: es) [] pos) (tMake C sp dvs E t) := by
  intro pins s σ H Q I h
  refine wpAny_Call_Name_kw (ld_glob I hg hm ?_ hdb)
  refine PySem.W.callWith_K (h₀ := X.base) I.ok.mod.kin M.kp (thn (ha pos pins s σ H _ I h) fun us s1 ⟨vs, H1, I1, r, q⟩ => ⟨I1.kIn, ?_⟩) he hpl
  exact run_make M F hr hb hd hx I1 r q
end
section
variable {X : Cx} {CX : CXT} {k : Nat} {f C : Addr} {fd : FuncData} {ps ks : List Str} {sp : Sp} {E : XK} {x m : Str} {p pos apos kpos : Pos} {e o : Expr} {es : List Expr} {kws : List Keyword} {te ta : TE} {t tk : TA} {nm : Option Str}
variable {g : List Value → List Value → List Value} {gV : List V → List V → List V}
end
structure FnScope (N P : List Str) (sc : Scope) : Prop where
  kind : sc.kind = .function
  co : sc.isCoroutine = false
  gen : sc.isGenerator = false
  nd : N.Nodup
  pre : N.take P.length = P
  par : ∀ x ∈ P, sc.names.lookup x = some .local ∨ sc.names.lookup x = some .cell
  nofree : ∀ y ∈ sc.names, y.2 ≠ .free
theorem bindL_out {kindOf : Str → Option NameKind} {x : Str} : ∀ {binds : List (Str × Value)} {m : Str → Option Value}, (∀ v, (x, v) ∉ binds) → bindL kindOf binds m x = m x
  | [], _, _ => rfl
  | (n, v) :: r, m, h => by
    unfold bindL
    rw [bindL_out fun w hw => h w (List.mem_cons_of_mem _ hw)]
    split
    · have : x ≠ n := by rintro rfl; exact h v List.mem_cons_self
      simp [this]
    · rfl
theorem bindC_out {kindOf : Str → Option NameKind} {x : Str} : ∀ {binds : List (Str × Value)} {m : Str → Option Value}, (∀ v, (x, v) ∉ binds) → bindC kindOf binds m x = m x
  | [], _, _ => rfl
  | (n, v) :: r, m, h => by
    unfold bindC
    rw [bindC_out fun w hw => h w (List.mem_cons_of_mem _ hw)]
    split
    · rfl
    · have : x ≠ n := by rintro rfl; exact h v List.mem_cons_self
      simp [this]
theorem bindL_get {kindOf : Str → Option NameKind} {x : Str} {v : Value} : ∀ {P : List Str} {vs : List Value} {i : Nat} {m : Str → Option Value}, P.Nodup → P[i]? = some x → vs[i]? = some v → kindOf x = some .local →
    bindL kindOf (P.zip vs) m x = some v
  | [], _, _, _, _, h, _, _ => by simp at h
  | _ :: _, [], _, _, _, _, h, _ => by simp at h
  | p :: P, w :: vs, 0, m, nd, h1, h2, hk => by
    simp at h1 h2; subst h1; subst h2
    show bindL kindOf ((p, w) :: P.zip vs) m p = _
    unfold bindL
    rw [bindL_out fun v hv => (List.nodup_cons.mp nd).1 (List.of_mem_zip hv).1, if_pos hk]
    simp
  | p :: P, w :: vs, i + 1, m, nd, h1, h2, hk => by
    show bindL kindOf ((p, w) :: P.zip vs) m x = _
    unfold bindL
    exact bindL_get (i := i) (List.nodup_cons.mp nd).2 (by simpa using h1) (by simpa using h2) hk
theorem bindC_get {kindOf : Str → Option NameKind} {x : Str} {v : Value} : ∀ {P : List Str} {vs : List Value} {i : Nat} {m : Str → Option Value}, P.Nodup → P[i]? = some x → vs[i]? = some v → kindOf x ≠ some .local →
    bindC kindOf (P.zip vs) m x = some v
  | [], _, _, _, _, h, _, _ => by simp at h
  | _ :: _, [], _, _, _, _, h, _ => by simp at h
  | p :: P, w :: vs, 0, m, nd, h1, h2, hk => by
    simp at h1 h2; subst h1; subst h2
    show bindC kindOf ((p, w) :: P.zip vs) m p = _
    unfold bindC
    rw [bindC_out fun v hv => (List.nodup_cons.mp nd).1 (List.of_mem_zip hv).1, if_neg hk]
    simp
  | p :: P, w :: vs, i + 1, m, nd, h1, h2, hk => by
    show bindC kindOf ((p, w) :: P.zip vs) m x = _
    unfold bindC
    exact bindC_get (i := i) (List.nodup_cons.mp nd).2 (by simpa using h1) (by simpa using h2) hk
def start (N : List Str) (vs : List V) : St := vs.map some ++ List.replicate (N.length - vs.length) none
def cxOf (CX : CXT) (P : Program) (w : World) (K : PySem.W.Frag) (mg : Str → Option Value) (base : Heap) (N : List Str) (qual : Str) (scope : Scope) (f : Addr) (cd : Value) (A : Around) (outer : List Env) (s : Shared) (H : Hp) (E : XK) : Cx where
  prog := P
  w := w
  K := K
  mg := mg
  base := base
  A := A.deeper (envOfC qual scope s.heap.objs.size f cd)
  N := N
  s₀ := s
  H₀ := H
  env := envOfC qual scope s.heap.objs.size f cd
  outer := outer
  stack := envOfC qual scope s.heap.objs.size f cd :: outer
  ex := []
  calm := true
  fn := fun _ => true
  pn := []
  xe := fun e s' => wpAny (model P w) (A.deeper (envOfC qual scope s.heap.objs.size f cd)) (leaving (envOfC qual scope s.heap.objs.size f cd) e) (fun _ s'' => CX outer H s E e s'') (fun e' s'' => CX outer H s E e' s'') s'
theorem cell_has {sc : Scope} {n : Nat} {x : Str} (h : sc.names.lookup x = some .cell) : ∃ c, (cellsFrom n sc.names []).lookup x = some c := by
  have q := PySem.W.cellsFrom_some sc.names n [] (.inl h)
  exact Option.isSome_iff_exists.mp q
theorem inv_start {CX : CXT} {P : Program} {w : World} {K : PySem.W.Frag} {mg : Str → Option Value} {base : Heap} {N ps : List Str} {qual : Str} {scope : Scope} {f : Addr} {cd : Value} {A : Around} {outer : List Env} {s s1 : Shared} {H : Hp} {E : XK} {us : List Value} {vs : List V}
    (S : FnScope N ps scope) (hd : A.handled = none) (e0 : Env0 P w K mg base A outer s H) (hl : vs.length = ps.length) (r : Vals vs us)
    (x : InCallC s s.heap.objs.size (bindL (envOfC qual scope s.heap.objs.size f cd).kindOf (ps.zip us) fun _ => none) (cellsFrom (s.heap.objs.size + 1) scope.names []) (bindC (envOfC qual scope s.heap.objs.size f cd).kindOf (ps.zip us) fun _ => none) s1) :
    Inv (cxOf CX P w K mg base N qual scope f cd A outer s H E) [] (start N vs) H s1 := by
  have hpl : ps.length ≤ N.length := by have := congrArg List.length S.pre; rw [List.length_take] at this; omega
  obtain ⟨h1, tk, rfl, hk⟩ := x.done
  have noA : ∀ b : Addr, b ∉ (cxOf CX P w K mg base N qual scope f cd A outer s H E).ex := fun b z => absurd (show b ∈ ([] : List Addr) from z) (by simp)
  refine ⟨⟨e0.mod, S.kind, rfl, rfl, Nat.le_refl _, fun y z c h1 h2 => ?_, fun y hy => ?_, fun y c _ h => ?_, fun _ => hd, Around.frames_deeper e0.frames, .inr ⟨rfl, rfl⟩, fun b z => absurd z (noA b), e0.bs, e0.bsz, fun b _ _ => noA b, fun b z => absurd z (noA b), e0.funs, e0.frf⟩,
    rfl, e0.bare, Un.kept hk, ⟨_, x.toInCall.ns, fun i y v h1 h2 h3 => ?_⟩, fun y c h => ⟨_, x.cell y c h⟩, e0.hok.fresh (Nat.le_refl _), fun y c h => ?_, fun p hp => absurd (show p ∈ ([] : List (Addr × Obj)) from hp) (by simp), e0.hok.kept hk, ?_⟩
  · exact name_of_addr x.apart (PySem.mem_of_lookup h1) (PySem.mem_of_lookup h2)
  · have hy : scope.names.lookup y = some .cell ∨ scope.names.lookup y = some .free := hy
    rcases hy with hy | hy
    · exact cell_has hy
    · exact absurd rfl (S.nofree _ (PySem.mem_of_lookup hy))
  · exact Nat.le_of_lt (x.above y c (PySem.mem_of_lookup h))
  · have hi : i < vs.length := by
      unfold start at h2
      by_cases hi : i < vs.length
      · exact hi
      · rw [List.getElem?_append_right (by simpa using hi)] at h2
        rw [List.getElem?_replicate] at h2
        split at h2 <;> cases h2
    have ha : vs[i]? = some v := by
      unfold start at h2
      rw [List.getElem?_append_left (by simpa using hi), List.getElem?_map] at h2
      cases e : vs[i]? with
      | none => rw [e] at h2; cases h2
      | some a => rw [e] at h2; cases h2; rfl
    obtain ⟨u, hu, rv⟩ := r.get ha
    have hp : ps[i]? = some y := by
      rw [← S.pre, List.getElem?_take_of_lt (by omega)]; exact h1
    have ndP : ps.Nodup := by rw [← S.pre]; exact S.nd.sublist (List.take_sublist _ _)
    refine ⟨u, rv, ?_⟩
    rcases S.par y (List.mem_of_getElem? hp) with k | k
    · exact .inl ⟨k, bindL_get ndP hp hu k⟩
    · obtain ⟨c, e⟩ := cell_has (n := s.heap.objs.size + 1) k
      refine .inr ⟨.inl k, c, e, ?_⟩
      have q := x.cell y c e
      rw [bindC_get ndP hp hu (by show scope.names.lookup y ≠ _; rw [k]; decide)] at q
      exact q
  · exact e0.hok.fresh (Nat.le_of_lt (x.above y c (PySem.mem_of_lookup h)))
  · unfold start
    show _ = N.length
    rw [List.length_append, List.length_map, List.length_replicate]
    omega
theorem fn_of {CX : CXT} {P : Program} {w : World} {K : PySem.W.Frag} {mg : Str → Option Value} {base : Heap} {k : Nat} {f : Addr} {name qual : Str} {params : Arguments} {body : List Stmt} {scope : Scope} {dV kV doc pm cdv ct oc : Value} {an od : Option Addr}
    {osl : Array (Option Value)} {N ps : List Str} {sp : Sp} (lk : K.lookup f = some ⟨oc, od, .func (PySem.W.fnOf name qual params body scope dV kV doc pm an cdv ct), osl⟩) (hcd : PySem.W.codeIn K cdv qual = true) (S : FnScope N ps scope)
    (len : ∀ vs H Q E, sp vs H Q E → vs.length = ps.length)
    (hbody : ∀ (A : Around) (outer : List Env) (s : Shared) (H : Hp) (vs : List V) (Q : VK) (E : XK), Room k (A.deeper (envOfC qual scope s.heap.objs.size f cdv)) → sp vs H Q E →
      ∃ t, PSs (cxOf CX P w K mg base N qual scope f cdv A outer s H E) body t ∧ t { nx := fun _ H' => Q .non H', rt := Q } (start N vs) H) :
    FnOk P w K mg base CX (k + 1) f (PySem.W.fnOf name qual params body scope dV kV doc pm an cdv ct) ps sp := by
  refine ⟨len, fun A outer s H args us vs Q E hr e0 hb r hsp => ?_⟩
  have hl := len _ _ _ _ hsp
  have KX : K.In s.heap := e0.mod.kin.keeps fun b o e => (e0.bs b o e).1
  have lim : s.heap.NoLimit := e0.mod.nolimit.keeps fun b o e => (e0.bs b o e).1
  have hkind : ∀ y ∈ ps.zip us, scope.names.lookup y.1 = some .local ∨ (scope.names.lookup y.1 = some .cell ∧ ((cellsFrom (s.heap.objs.size + 1) scope.names []).lookup y.1).isSome = true) := fun ⟨n, v⟩ hy => by
    rcases S.par n (List.of_mem_zip hy).1 with q | q
    · exact .inl q
    · exact .inr ⟨q, PySem.W.cellsFrom_some _ _ _ (.inl q)⟩
  refine codeAny_call_function hr.depth (KX _ _ lk) rfl S.co S.gen rfl (PySem.W.codeRec_of KX hcd) (hb _ _ _ _ ?_)
  refine wpAny_newFunctionEnv_cells S.kind hkind fun env he s1 x => ?_
  subst he
  refine ⟨lim.keeps x.toInCall.keep, codeAny_func ?_⟩
  obtain ⟨t, ht, hq⟩ := hbody A outer s H vs Q E (hr.deeper _) hsp
  have I : Inv (cxOf CX P w K mg base N qual scope f cdv A outer s H E) [] (start N vs) H s1 := inv_start S hr.hd e0 hl r x
  refine wpAny_mono (ht [] s1 (start N vs) H _ I hq) (fun fl s' hs => ?_) fun e s' hs => hs
  have fin : ∀ {σ' : St} {H' : Hp} {v : V} {u : Value}, Inv (cxOf CX P w K mg base N qual scope f cdv A outer s H E) [] σ' H' s' → RelV v u → Q v H' → CE outer P w H s Q u s' :=
    fun {σ' H' v u} J rv q => ⟨v, H', J.os, J.bare, J.base, J.hok, rv, q⟩
  cases fl with
  | ret u =>
    obtain ⟨v, σ', H', J, rv, q⟩ := hs
    exact fin J rv q
  | next =>
    obtain ⟨σ', H', J, q⟩ := hs
    exact fin (v := V.non) (u := Value.none) J rfl q
  | brk =>
    obtain ⟨_, _, _, q⟩ := hs
    exact False.elim q
  | cont =>
    obtain ⟨_, _, _, q⟩ := hs
    exact False.elim q
end L2
namespace L2
open PySem PySem.Spec PyProof.Rows
section
variable {X : Cx} {x : Str} {p pos : Pos} {e : Expr} {es : List Expr} {t : TA} {id T : String} {r : List V → Hp → VK → Prop}
def tCB (r : List V → Hp → VK → Prop) (t : TA) : TE := fun σ H Q => t σ H fun vs H1 => r vs H1 Q
theorem pe_callB (hc : CallR X (.builtin id) r) (hg : Gl X x) (hm : X.mg x = none) (hv : bootBuiltins x = some (.builtin id)) (ha : PA X (e :: es) t) (hn : x ≠ "__name__" := by decide) (hdb : (x == ("__debug__" : Str)) = false := by decide)
    (he : starEach (e :: es) X.env = (false, eval e X.env) :: starEach es X.env := by rfl) (hpl : (backTo pos (starEach es X.env)).any (·.1) = false := by rfl) : PE X (.Call (.Name x p) (e :: es) [] pos) (tCB r t) := by
  intro pins s σ H Q I h
  refine wpAny_Call_Name_kw (ld_blt I hg hm hv ?_ hn hdb)
  exact PyProof.Rows.callWith_builtin1 (thn (ha pos pins s σ H _ I h) fun us s1 ⟨vs, H1, I1, r1, q1⟩ => hc pins s1 σ H1 vs us Q I1 r1 q1) he hpl
theorem pe_callTy (hc : CallR X (.type T) r) (hg : Gl X x) (hm : X.mg x = none) (hv : bootBuiltins x = some (.type T)) (ha : PA X (e :: es) t) (hn : x ≠ "__name__" := by decide) (hdb : (x == ("__debug__" : Str)) = false := by decide)
    (he : starEach (e :: es) X.env = (false, eval e X.env) :: starEach es X.env := by rfl) (hpl : (backTo pos (starEach es X.env)).any (·.1) = false := by rfl) : PE X (.Call (.Name x p) (e :: es) [] pos) (tCB r t) := by
  intro pins s σ H Q I h
  refine wpAny_Call_Name_kw (ld_blt I hg hm hv ?_ hn hdb)
  exact PyProof.Rows.callWith_type1 (thn (ha pos pins s σ H _ I h) fun us s1 ⟨vs, H1, I1, r1, q1⟩ => hc pins s1 σ H1 vs us Q I1 r1 q1) he hpl
end
end L2
namespace HT
open PySem PyProof.Rows
def lexLt : List Int → List Int → Bool
  | [], [] => false
  | [], _ :: _ => true
  | _ :: _, [] => false
  | x :: xs, y :: ys => if x = y then lexLt xs ys else decide (x < y)
theorem lexLt_cons (x y : Int) (xs ys : List Int) : lexLt (x :: xs) (y :: ys) = if x = y then lexLt xs ys else decide (x < y) := rfl
section
open PySem.SeqAt
open PySem.AutoSeq1 (wpAny_loadPart')
open PySem.MeetsSeq PySem.MeetsSeq2 PySem.MeetsSeq3
end
section
variable {prog : Program} {w : World} {A : Around} {E : Value → Shared → Prop} {s : Shared}
theorem cat_tup {t b : Addr} {vs ws : List Value} {Q : Value → Shared → Prop} (ht : IsTup s.heap t vs.toArray) (hb : IsTup s.heap b ws.toArray) (hv : vs ≠ [])
    (h1 : ws = [] → Q (.ref t) s) (h2 : ws ≠ [] → Q (.ref s.heap.objs.size) { s with heap := s.heap.push { cls := .type "tuple", data := .seq (vs ++ ws).toArray } })
    (hsz : vs.length + ws.length ≤ sizeLine) : wpAny (model prog w) A (binaryOp .Add (.ref t) (.ref b)) Q E s := by
  obtain ⟨⟨cls, dd, data, sl⟩, ho, hc, n, hd⟩ := id ht
  obtain ⟨⟨cls2, dd2, data2, sl2⟩, ho2, hc2, n2, hd2⟩ := id hb
  simp only at hc hd hc2 hd2
  subst hc hd hc2 hd2
  have e : vs.toArray ++ ws.toArray = (vs ++ ws).toArray := by simp
  by_cases hw : ws = []
  · exact concat_meets ⟨_, ho, rfl⟩ ⟨_, ho2, rfl⟩ noFill_tuple_add seq_tuple_add PySem.F.slot_tuple_add PySem.F.entry_tuple_add (PySem.F.args_tuple_add_2 _ _)
      (tuple_addW1 t b vs.toArray ws.toArray n n2 dd dd2 sl sl2 (by simpa using hv) (by simp [hw])) ⟨ho, ho2, h1 hw⟩
  · refine concat_meets ⟨_, ho, rfl⟩ ⟨_, ho2, rfl⟩ noFill_tuple_add seq_tuple_add PySem.F.slot_tuple_add PySem.F.entry_tuple_add (PySem.F.args_tuple_add_2 _ _)
      (tuple_addW2 t b vs.toArray ws.toArray n n2 dd dd2 sl sl2 (by simpa using hv) (by simpa using hw) (by rw [List.size_toArray, List.size_toArray]; exact hsz)) ⟨ho, ho2, ?_⟩
    rw [e]
    exact h2 hw
end
end HT
namespace L2
open PySem PySem.Spec PyProof.Rows
abbrev TO := St → Hp → (Option Int → Hp → Prop) → Prop
theorem intsAre_of {ns : List Int} : ∀ {us : List Value}, Vals (ns.map V.int) us → IntsAre us ns := by
  induction ns with
  | nil => intro us r; rw [List.map_nil] at r; cases r; exact .nil
  | cons n ns ih =>
    intro us r
    rw [List.map_cons] at r
    cases r with
    | cons r1 r2 =>
      obtain ⟨t, e⟩ := r1
      subst e
      exact .cons n t (ih r2)
section
variable {X : Cx} {e : Expr} {te : TE} {lo hi : Option Expr} {tl th : TO} {pos p2 : Pos}
def SlR (X : Cx) (r : V → Option Int → Option Int → Hp → VK → Prop) : Prop :=
  ∀ (pins : List (Addr × Obj)) (s : Shared) (σ : St) (H : Hp) (x : V) (v vl vu : Value) (lo hi : Option Int) (sl : Addr) (Q : VK), Inv X pins σ H s → RelV x v → s.heap.IsSliceOf sl vl vu .none → IsPart vl lo → IsPart vu hi → r x lo hi H Q →
    ∃ T id, typeLookup (.type T) "__getitem__" = pure (some (.builtin id)) ∧ s.TypeIs v T ∧ wpAny (model X.prog X.w) X.A (getItem v (.ref sl)) (EP X pins σ Q) X.xe s
theorem SlR.or {r r' : V → Option Int → Option Int → Hp → VK → Prop} (h : SlR X r) (h' : SlR X r') : SlR X (fun x lo hi H Q => r x lo hi H Q ∨ r' x lo hi H Q) := by
  intro pins s σ H x v vl vu lo hi sl Q I rx hs pl pu q
  rcases q with q | q
  · exact h pins s σ H x v vl vu lo hi sl Q I rx hs pl pu q
  · exact h' pins s σ H x v vl vu lo hi sl Q I rx hs pl pu q
def rCatT (K : PySem.W.Frag) : R2 := fun x y H Q => ∃ a b xs ys, x = .ref a ∧ y = .ref b ∧ SqT K H a xs ∧ SqT K H b ys ∧ xs ≠ [] ∧ xs.length + ys.length ≤ sizeLine ∧
  (ys = [] → Q (.ref a) H) ∧ (ys ≠ [] → ∀ p, H p = none → Q (.ref p) (upd H p (.tup (xs ++ ys))))
theorem Vals.nil_iff {xs : List V} {us : List Value} (r : Vals xs us) : us = [] ↔ xs = [] := by
  cases r with
  | nil => simp
  | cons _ _ => simp
theorem op_catT : OpR X (binaryOp .Add) (rCatT X.K) := by
  intro pins s σ H x y v u Q I rx ry h
  obtain ⟨a, b, xs, ys, rfl, rfl, ha, hb, hx, hz, q1, q2⟩ := h
  cases rx
  cases ry
  obtain ⟨its, r1, p1, _⟩ := I.tuple ha
  obtain ⟨its2, r2, p2, _⟩ := I.tuple hb
  refine HT.cat_tup p1 p2 (fun z => hx (r1.nil_iff.mp z)) (fun z => ⟨.ref a, H, I, rfl, q1 (r2.nil_iff.mp z)⟩) (fun z => ?_) (by rw [← r1.length, ← r2.length]; exact hz)
  refine ⟨.ref s.heap.objs.size, _, I.laid (t' := s.toks) (o := .tup (xs ++ ys)) (fun b ob q => Heap.get?_push_of_some _ q) (Nat.le_refl _) ?_, rfl, q2 (fun w => z (r2.nil_iff.mpr w)) _ (I.hok.fresh (Nat.le_refl _))⟩
  exact ⟨by rw [List.length_append]; exact hz, _, r1.append r2, IsTup.new _ _⟩
end
end L2
namespace L2
open PySem PySem.Spec PyProof.Rows
def ixN (n : Nat) (i : Int) : Option Nat := if 0 ≤ i then (if i < n then some i.toNat else none) else if -(n : Int) ≤ i then some (i + n).toNat else none
def atI {α : Type} (xs : List α) (i : Int) : Option α := (ixN xs.length i).bind fun j => xs[j]?
theorem ixN_seq {n : Nat} {i : Int} {j : Nat} (h : ixN n i = some j) : seqIndex? i n = some j ∧ j < n ∧ -(n : Int) ≤ i ∧ i < n := by
  unfold ixN at h
  by_cases h0 : 0 ≤ i
  · rw [if_pos h0] at h
    by_cases h1 : i < n
    · rw [if_pos h1] at h
      have e : i.toNat = j := Option.some.inj h
      exact ⟨by rw [seqIndex_of h0 h1, e], by omega, by omega, h1⟩
    · rw [if_neg h1] at h; cases h
  · rw [if_neg h0] at h
    by_cases h1 : -(n : Int) ≤ i
    · rw [if_pos h1] at h
      have e : (i + n).toNat = j := Option.some.inj h
      exact ⟨by rw [seqIndex_neg (by omega) h1, e], by omega, h1, by omega⟩
    · rw [if_neg h1] at h; cases h
theorem atI_get {α : Type} {xs : List α} {i : Int} {v : α} (h : atI xs i = some v) : ∃ j, seqIndex? i xs.length = some j ∧ xs[j]? = some v ∧ j < xs.length ∧ -(xs.length : Int) ≤ i ∧ i < xs.length := by
  unfold atI at h
  cases e : ixN xs.length i with
  | none => rw [e] at h; cases h
  | some j =>
    rw [e] at h
    obtain ⟨h1, h2, h3, h4⟩ := ixN_seq e
    exact ⟨j, h1, h, h2, h3, h4⟩
def PlainIx (b : Expr) : Prop := ∀ o i, subscripted b false o i = operate [o, i] (getItem o i)
def IxR (X : Cx) (r : R2) : Prop :=
  ∀ (value slice : Expr) (pins : List (Addr × Obj)) (s : Shared) (σ : St) (H : Hp) (x y : V) (v u : Value) (Q : VK), Inv X pins σ H s → RelV x v → RelV y u → r x y H Q →
    subscripted slice false v u = operate [v, u] (getItem v u) → wpAny (model X.prog X.w) X.A (subscriptTail value slice v u) (EP X pins σ Q) X.xe s
def MtR (X : Cx) (id : String) (r : V → List V → Hp → VK → Prop) : Prop :=
  ∀ (pins : List (Addr × Obj)) (s : Shared) (σ : St) (H : Hp) (x : V) (xs : List V) (v : Value) (us : List Value) (Q : VK), Inv X pins σ H s → RelV x v → Vals xs us → r x xs H Q →
    wpAny (model X.prog X.w) X.A (call (.builtin id) (v :: us)) (EP X pins σ Q) X.xe s
section
variable {X : Cx} {a b : Expr} {ta tb : TE} {pos : Pos}
theorem IxR.or {r r' : R2} (h : IxR X r) (h' : IxR X r') : IxR X (fun x y H Q => r x y H Q ∨ r' x y H Q) := by
  intro value slice pins s σ H x y v u Q I rx ry q hs
  rcases q with q | q
  · exact h value slice pins s σ H x y v u Q I rx ry q hs
  · exact h' value slice pins s σ H x y v u Q I rx ry q hs
theorem MtR.or {id : String} {r r' : V → List V → Hp → VK → Prop} (h : MtR X id r) (h' : MtR X id r') : MtR X id (fun x xs H Q => r x xs H Q ∨ r' x xs H Q) := by
  intro pins s σ H x xs v us Q I rx rs q
  rcases q with q | q
  · exact h pins s σ H x xs v us Q I rx rs q
  · exact h' pins s σ H x xs v us Q I rx rs q
theorem pe_ix {r : R2} (hr : IxR X r) (ha : PE X a ta) (hb : PE X b tb) (hs : PlainIx b) : PE X (.Subscript a b pos) (tOp r ta tb) := by
  intro pins s σ H Q I h
  exact Subscript_ (binT ha hb I h fun v u s2 x y H2 I2 rx ry q => hr a b pins s2 σ H2 x y v u Q I2 rx ry q (hs _ _))
def rIxL (K : PySem.W.Frag) : R2 := fun x y H Q => ∃ p xs i v, x = .ref p ∧ y = .int i ∧ SqL K H p xs ∧ atI xs i = some v ∧ Q v H
def rIxT (K : PySem.W.Frag) : R2 := fun x y H Q => ∃ p xs i v, x = .ref p ∧ y = .int i ∧ SqT K H p xs ∧ atI xs i = some v ∧ Q v H
def rIxS : R2 := fun x y H Q => ∃ z i c, x = .str z ∧ y = .int i ∧ z.length ≤ sizeLine ∧ atI z.cps.toList i = some c ∧ Q (.str ⟨#[c]⟩) H
theorem ix_list : IxR X (rIxL X.K) := by
  intro value slice pins s σ H x y v u Q I rx ry h hs
  obtain ⟨p, xs, i, z, rfl, rfl, hq, he, q⟩ := h
  cases rx
  obtain ⟨t, rfl⟩ := ry
  obtain ⟨its, r, pl, hz⟩ := I.list hq
  obtain ⟨j, h1, h2, h3, h4, h5⟩ := atI_get he
  obtain ⟨w, ew, rw'⟩ := r.get h2
  have hl := r.length
  have hn := line63
  have fin : EP X pins σ Q w s := ⟨z, H, I, rw', q⟩
  by_cases h0 : 0 ≤ i
  · have hj : i.toNat = j := by
      rw [seqIndex_of h0 h5] at h1
      exact Option.some.inj h1
    exact item_listR pl.isList h0 (by omega) (by rw [hj]; simpa using ew) fin hs
  · have hj : (i + (its.toArray.size : Int)).toNat = j := by
      rw [seqIndex_neg (by omega) h4] at h1
      rw [List.size_toArray, ← hl]
      exact Option.some.inj h1
    exact subscriptTail_builtinR (x := w) pl.isList.typeIs slot_list_getitem.lookup
      (wpAny_getItem_list_neg (Q := fun r s' => r = w ∧ EP X pins σ Q r s') pl.isList (by omega) (by rw [List.size_toArray] <;> omega) (by omega) (by rw [hj]; simpa using ew) ⟨rfl, fin⟩) hs
theorem ix_tup : IxR X (rIxT X.K) := by
  intro value slice pins s σ H x y v u Q I rx ry h hs
  obtain ⟨p, xs, i, z, rfl, rfl, hq, he, q⟩ := h
  cases rx
  obtain ⟨t, rfl⟩ := ry
  obtain ⟨its, r, pl, hz⟩ := I.tuple hq
  obtain ⟨j, h1, h2, h3, h4, h5⟩ := atI_get he
  obtain ⟨w, ew, rw'⟩ := r.get h2
  have hl := r.length
  have hn := line63
  have fin : EP X pins σ Q w s := ⟨z, H, I, rw', q⟩
  exact subscriptTail_builtinR (x := w) pl.typeIs slot_tuple_getitem.lookup
    (getItem_tuple (j := j) (Q := fun r s' => r = w ∧ EP X pins σ Q r s') pl (by omega) (by omega) (by rw [List.size_toArray, ← hl]; exact h1) (by simpa using ew) ⟨rfl, fin⟩) hs
theorem ix_str : IxR X rIxS := by
  intro value slice pins s σ H x y v u Q I rx ry h hs
  obtain ⟨z, i, c, rfl, rfl, hz, he, q⟩ := h
  obtain ⟨t, rfl⟩ := rx
  obtain ⟨t', rfl⟩ := ry
  obtain ⟨j, h1, h2, h3, h4, h5⟩ := atI_get he
  have hl : z.cps.toList.length = z.length := by simp [Str.length]
  rw [hl] at h1 h4 h5
  have hn := line63
  exact tail_any (typeIs_str s z t) slot_str_getitem.lookup (getItem_str (c := c) (by
    have e1 : decide (i < -(2 ^ 63 : Int)) = false := decide_eq_false (by omega)
    have e2 : decide (i ≥ 2 ^ 63) = false := decide_eq_false (by omega)
    rw [e1, e2, Bool.or_false]) (by rw [h1]; simpa using h2) ⟨.str ⟨#[c]⟩, H, I.tok _, ⟨_, rfl⟩, q⟩) hs
def rIx (K : PySem.W.Frag) : R2 := fun x y H Q => rIxL K x y H Q ∨ rIxT K x y H Q ∨ rIxS x y H Q
theorem ix_seq : IxR X (rIx X.K) := ix_list.or (ix_tup.or ix_str)
theorem Inv.lst {pins : List (Addr × Obj)} {σ : St} {H : Hp} {s : Shared} {p : Addr} {xs : List V} (I : Inv X pins σ H s) (h : H p = some (.lst xs)) :
    ∃ (its : List Value) (n : Nat), Vals xs its ∧ s.heap.get? p = some { cls := .type "list", data := .seq its.toArray n } ∧ xs.length ≤ sizeLine := by
  obtain ⟨z, its, n, r, e⟩ := I.hok p _ h
  exact ⟨its, n, r, e, z⟩
theorem call_len_seq : CallR X (.builtin "len") (fun xs H Q => ∃ p ys, xs = [.ref p] ∧ (SqL X.K H p ys ∨ SqT X.K H p ys) ∧ Q (.int ys.length) H) := by
  intro pins s σ H xs us Q I r h
  obtain ⟨p, ys, rfl, hq, q⟩ := h
  obtain ⟨u, rfl, rx⟩ := vals1 r
  cases rx
  have hn := line63
  rcases hq with hq | hq
  · obtain ⟨its, r', pl, hz⟩ := I.list hq
    have hlen := r'.length
    exact Calls.call_len_list pl.isList (by simp only [List.size_toArray] <;> omega) ⟨.int ys.length, H, I.tok _, ⟨s.toks + 1, by rw [List.size_toArray, hlen]⟩, q⟩
  · obtain ⟨its, r', pl, hz⟩ := I.tuple hq
    have hlen := r'.length
    exact len_tuple pl (by simp only [List.size_toArray] <;> omega) ⟨.int ys.length, H, I.tok _, ⟨s.toks + 1, by rw [List.size_toArray, hlen]⟩, q⟩
theorem CallR.or {f : Value} {r r' : List V → Hp → VK → Prop} (h : CallR X f r) (h' : CallR X f r') : CallR X f (fun xs H Q => r xs H Q ∨ r' xs H Q) := by
  intro pins s σ H xs us Q I rs q
  rcases q with q | q
  · exact h pins s σ H xs us Q I rs q
  · exact h' pins s σ H xs us Q I rs q
theorem call_tuple_of : CallR X (.type "tuple") (fun xs H Q => ∃ p ys, xs = [.ref p] ∧ ((SqL X.K H p ys ∧ ∀ l, H l = none → Q (.ref l) (upd H l (.tup ys))) ∨ (SqT X.K H p ys ∧ Q (.ref p) H))) := by
  intro pins s σ H xs us Q I r h
  obtain ⟨p, ys, rfl, h⟩ := h
  obtain ⟨u, rfl, rx⟩ := vals1 r
  cases rx
  rcases h with ⟨hq, q⟩ | ⟨hq, q⟩
  · obtain ⟨its, r', pl, hz⟩ := I.list hq
    have hlen := r'.length
    refine call_tuple_list pl.isList (fun h' kp => ?_) (by simp only [List.size_toArray] <;> omega)
    have I1 : Inv X pins σ H { s with heap := h' } := I.kept (t' := s.toks) kp
    have I2 : Inv X pins σ (upd H h'.objs.size (.tup ys)) { s with heap := h'.push { cls := .type "tuple", data := .seq its.toArray } } :=
      I1.laid (t' := s.toks) (fun b o e => Heap.get?_push_of_some _ e) (Nat.le_refl _) (show ObjOk X.prog X.w _ _ _ (.tup ys) from ⟨hz, its, r', IsTup.new _ _⟩)
    exact ⟨.ref h'.objs.size, _, I2, rfl, q _ (I1.hok.fresh (Nat.le_refl _))⟩
  · obtain ⟨its, r', pl, hz⟩ := I.tuple hq
    exact call_tuple_same pl ⟨.ref p, H, I, rfl, q⟩
def tyV (K : PySem.W.Frag) (T : String) (x : V) (H : Hp) : Prop := match x with
  | .str _ => T = "str"
  | .int _ => T = "int"
  | .ref p => (T = "list" ∧ ∃ xs, SqL K H p xs) ∨ (T = "tuple" ∧ ∃ o, K.lookup p = some o ∧ o.cls = .type "tuple" ∧ o.dict = none) ∨
      (T = "dict" ∧ ((∃ kvs, H p = some (.dK kvs)) ∨ ∃ kvs, H p = some (.dT kvs))) ∨ (T = "set" ∧ ∃ S n, H p = some (.set S n))
  | _ => False
theorem tyV_is {pins : List (Addr × Obj)} {σ : St} {H : Hp} {s : Shared} {T : String} {x : V} {v : Value} (I : Inv X pins σ H s) (r : RelV x v) (ty : tyV X.K T x H) :
    s.TypeIs v T ∧ ∀ a, v = .ref a → ∃ ob, s.heap.get? a = some ob ∧ ob.dict = none := by
  cases x with
  | str z =>
    obtain ⟨t, rfl⟩ := r
    cases (show T = "str" from ty)
    exact ⟨typeIs_str s z t, fun _ e => nomatch e⟩
  | int i =>
    obtain ⟨t, rfl⟩ := r
    cases (show T = "int" from ty)
    exact ⟨typeIs_int s i t, fun _ e => nomatch e⟩
  | ref p =>
    cases r
    rcases ty with ⟨rfl, xs, hq⟩ | ⟨rfl, o, hk, hc, hd⟩ | ⟨rfl, hk⟩ | ⟨rfl, S, n, hk⟩
    · obtain ⟨its, _, pl, _⟩ := I.list hq
      refine ⟨pl.isList.typeIs, fun a e => ?_⟩
      cases e
      obtain ⟨o, n, e, c, hd, _⟩ := pl
      exact ⟨o, e, hd⟩
    · refine ⟨⟨o, I.kIn p o hk, hc⟩, fun a e => ?_⟩
      cases e
      exact ⟨o, I.kIn _ o hk, hd⟩
    · have z : ∃ o, s.heap.get? p = some o ∧ o.ExactDict := by
        rcases hk with ⟨kvs, hk⟩ | ⟨kvs, hk⟩
        · obtain ⟨_, _, _, _, o, _, _, e, ex, _⟩ := I.hok p _ hk
          exact ⟨o, e, ex⟩
        · obtain ⟨_, _, _, _, o, _, _, e, ex, _⟩ := I.hok p _ hk
          exact ⟨o, e, ex⟩
      obtain ⟨o, e, ex⟩ := z
      refine ⟨⟨o, e, ex.1⟩, fun a e2 => ?_⟩
      cases e2
      exact ⟨o, e, ex.2.1⟩
    · obtain ⟨o, _, _, _, e, ex, _⟩ := I.hok p _ hk
      refine ⟨⟨o, e, ex.1⟩, fun a e2 => ?_⟩
      cases e2
      exact ⟨o, e, ex.2.1⟩
  | _ => exact False.elim ty
def tBM (K : PySem.W.Frag) (T : String) (r : V → List V → Hp → VK → Prop) (to : TE) (t : TA) : TE := fun σ H Q => to σ H fun x H1 => tyV K T x H1 ∧ t σ H1 fun xs H2 => r x xs H2 Q
variable {o e : Expr} {es : List Expr} {to : TE} {t : TA} {name : Str} {apos cpos : Pos} {T id : String} {r : V → List V → Hp → VK → Prop}
theorem pe_bm (pa : PlainAttrs T) (slot : Slot T name id) (hty : typeOf (.builtin id) = pure (.type "method_descriptor")) (hm : MtR X id r) (ho : PE X o to) (ha : PA X (e :: es) t)
    (hbase : attributeBase o name X.env (eval o X.env) = eval o X.env := by rfl)
    (hfew : ((backTo cpos (starEach (e :: es) X.env)).all (fun x => !x.1) && (backToKw cpos (keywordEach [] X.env)).all (fun x => x.1.isSome)
      && decide ((e :: es).length + ([] : List Keyword).length + (if ([] : List Keyword).isEmpty then 0 else 1) < 30)) = true := by rfl)
    (hline : (apos.endLine == cpos.line) = true := by rfl) (hs : starEach (e :: es) X.env = (false, eval e X.env) :: starEach es X.env := by rfl) (hplain : (backTo cpos (starEach es X.env)).any (·.1) = false := by rfl) :
    PE X (.Call (.Attribute o name apos) (e :: es) [] cpos) (tBM X.K T r to t) := by
  intro pins s σ H Q I h
  refine wpAny_Call_method_late hbase hfew hline rfl (thn (ho pins s σ H _ I h) fun v s1 ⟨x, H1, I1, r1, ty, q1⟩ => ?_)
  obtain ⟨h1, h2⟩ := tyV_is I1 r1 ty
  refine ⟨T, id, pa, slot, hty, h1, h2, ?_⟩
  have hA := ha cpos pins s1 σ H1 _ I1 q1
  rw [hs] at hA ⊢
  refine Calls.callWith_builtin (by show (false || (backTo cpos (starEach es X.env)).any (·.1)) = false; rw [hplain] <;> rfl) (Calls.evalArgs_plain ?_)
  exact thn hA fun us s2 ⟨vs, H2, I2, r2, q2⟩ => hm pins s2 σ H2 x vs v us Q I2 r1 r2 q2
end
end L2
namespace L2
open PySem PySem.Spec PyProof.Rows
def MtM (X : Cx) (id : String) (r : V → List V → Hp → VK → Prop) : Prop :=
  ∀ (pins : List (Addr × Obj)) (s : Shared) (σ : St) (H : Hp) (x : V) (xs : List V) (v : Value) (us : List Value) (Q : VK), Inv X pins σ H s → RelV x v → Vals xs us → r x xs H Q →
    wpAny (model X.prog X.w) X.A (call (.builtin id) (v :: us)) (EP X pins σ Q) X.xe s
theorem Vals.one : ∀ {x : V} {us : List Value}, Vals [x] us → ∃ u, us = [u] ∧ RelV x u
  | _, _, .cons r .nil => ⟨_, rfl, r⟩
theorem Vals.zero : ∀ {us : List Value}, Vals [] us → us = []
  | _, .nil => rfl
theorem Vals.reverse {xs : List V} {us : List Value} (h : Vals xs us) : Vals xs.reverse us.reverse := by
  induction h with
  | nil => exact .nil
  | cons r t ih => rw [List.reverse_cons, List.reverse_cons]; exact Vals.append ih (.cons r .nil)
theorem Vals.rep {xs : List V} {us : List Value} (h : Vals xs us) : ∀ k : Nat, Vals (List.replicate k xs).flatten (List.replicate k us).flatten
  | 0 => .nil
  | k + 1 => by
    rw [List.replicate_succ, List.replicate_succ, List.flatten_cons, List.flatten_cons]
    exact Vals.append h (Vals.rep h k)
theorem foldl_rep (its : List Value) : ∀ (k : Nat) (acc : List Value),
    List.foldl (fun x1 x2 => x1 ++ x2) acc.toArray (List.replicate k its.toArray) = (acc ++ (List.replicate k its).flatten).toArray
  | 0, acc => by simp
  | k + 1, acc => by
    have e : acc.toArray ++ its.toArray = (acc ++ its).toArray := by simp
    have e2 : (acc ++ its) ++ (List.replicate k its).flatten = acc ++ (List.replicate (k + 1) its).flatten := by
      rw [List.replicate_succ, List.flatten_cons, List.append_assoc]
    rw [← e2, ← foldl_rep its k (acc ++ its), ← e, List.replicate_succ, List.foldl_cons]
section
variable {X : Cx} {pins : List (Addr × Obj)} {σ : St} {H : Hp} {s : Shared} {l b : Addr} {xs ys zs : List V}
theorem Inv.lset {its its' : List Value} {n : Nat} {f : Array Value → Array Value} {t' : Nat} (I : Inv X pins σ H s) (hH : H l = some (.lst xs))
    (e : s.heap.get? l = some { cls := .type "list", data := .seq its.toArray n }) (hf : f its.toArray = its'.toArray) (hv : Vals ys its') (hz : ys.length ≤ sizeLine) :
    Inv X pins σ (upd H l (.lst ys)) { s with heap := s.heap.update l (Obj.mapSeq f), toks := t' } := by
  have q := PySem.IsL.update e f
  rw [hf] at q
  refine I.write (x := l) (e := l) (by rw [hH]; exact trivial) (.inl rfl) (fun b' u hb hu => (Heap.get?_update_other s.heap (Obj.mapSeq f) (Ne.symm hb)).trans hu) ⟨_, q⟩ ?_
  exact ⟨hz, its', _, hv, q⟩
theorem Inv.lnew {its : List Value} {t' : Nat} (I : Inv X pins σ H s) (hv : Vals ys its) (hz : ys.length ≤ sizeLine) :
    Inv X pins σ (upd H s.heap.objs.size (.lst ys)) { s with heap := s.heap.push { cls := .type "list", data := .seq its.toArray }, toks := t' } :=
  I.laid (fun _ _ q => Heap.get?_push_of_some _ q) (Nat.le_refl _) ⟨hz, its, 0, hv, Heap.get?_push_size _ rfl⟩
theorem Inv.fresh (I : Inv X pins σ H s) : H s.heap.objs.size = none := I.hok.fresh (Nat.le_refl _)
theorem Inv.lstM (I : Inv X pins σ H s) (hH : H l = some (.lst xs)) : xs.length ≤ sizeLine ∧ ∃ (its : List Value) (n : Nat), Vals xs its ∧ xs.length = its.length ∧ s.heap.get? l = some { cls := .type "list", data := .seq its.toArray n } := by
  obtain ⟨z, its, n, r, e⟩ := I.hok l _ hH
  exact ⟨z, its, n, r, r.length, e⟩
theorem notLongL {n : Nat} (h : n ≤ sizeLine) : Builtin.List.listTooLong n = false := by
  unfold Builtin.List.listTooLong
  exact decide_eq_false (by omega)
end
section
variable {X : Cx}
def rAppend : V → List V → Hp → VK → Prop := fun x vs H Q => ∃ l xs y, x = .ref l ∧ vs = [y] ∧ H l = some (.lst xs) ∧ xs.length < sizeLine ∧ Q .non (upd H l (.lst (xs ++ [y])))
theorem mt_append : MtM X "list.append" rAppend := by
  intro pins s σ H x vs v us Q I rx rv h
  obtain ⟨l, xs, y, rfl, rfl, hH, hz, q⟩ := h
  cases rx
  obtain ⟨u, rfl, ru⟩ := rv.one
  obtain ⟨z, its, n, r, hl, e⟩ := I.lstM hH
  refine call_meets F.slot_list_append ⟨_, e, rfl⟩ F.entry_list_append (F.args_list_append_2 _ _) (PySem.list_append l its.toArray n u (by rw [List.size_toArray]; omega)) ⟨e, ?_⟩
  refine ⟨.non, _, I.lset (its' := its ++ [u]) hH e (by simp) (r.append (.cons ru .nil)) ?_, rfl, q⟩
  rw [List.length_append, List.length_singleton]
  omega
def rExtend : V → List V → Hp → VK → Prop := fun x vs H Q => ∃ l b xs zs, x = .ref l ∧ vs = [.ref b] ∧ H l = some (.lst xs) ∧ H b = some (.lst zs) ∧ xs.length + zs.length ≤ sizeLine ∧ Q .non (upd H l (.lst (xs ++ zs)))
theorem mt_extend : MtM X "list.extend" rExtend := by
  intro pins s σ H x vs v us Q I rx rv h
  obtain ⟨l, b, xs, zs, rfl, rfl, hH, hB, hz, q⟩ := h
  cases rx
  obtain ⟨u, rfl, ru⟩ := rv.one
  cases ru
  obtain ⟨z, its, n, r, hl, e⟩ := I.lstM hH
  obtain ⟨z2, its2, n2, r2, hl2, e2⟩ := I.lstM hB
  have hsz : its.toArray.size + its2.toArray.size ≤ sizeLine := by rw [List.size_toArray, List.size_toArray]; omega
  have hlong : ¬ (!its.toArray.isEmpty && Builtin.List.listTooLong (its.toArray.size + its2.toArray.size)) = true := by
    rw [notLongL hsz, Bool.and_false]
    exact Bool.false_ne_true
  refine call_meets F.slot_list_extend ⟨_, e, rfl⟩ F.entry_list_extend (F.args_list_extend_2 _ _)
    (AutoSeq1.list_extend_list_list_0 l its.toArray n b its2.toArray n2 hlong (by rw [List.size_toArray]; omega) (by omega)) ⟨e, e2, ?_⟩
  refine ⟨.non, _, I.lset (its' := its ++ its2) hH e (by simp) (r.append r2) ?_, rfl, q⟩
  rw [List.length_append]
  omega
def rCat : R2 := fun x y H Q => ∃ l b xs zs, x = .ref l ∧ y = .ref b ∧ H l = some (.lst xs) ∧ H b = some (.lst zs) ∧ xs.length + zs.length ≤ sizeLine ∧ ∀ p, H p = none → Q (.ref p) (upd H p (.lst (xs ++ zs)))
theorem op_cat : OpR X (binaryOp .Add) rCat := by
  intro pins s σ H x y v u Q I rx ry h
  obtain ⟨l, b, xs, zs, rfl, rfl, hH, hB, hz, q⟩ := h
  cases rx
  cases ry
  obtain ⟨z, its, n, r, hl, e⟩ := I.lstM hH
  obtain ⟨z2, its2, n2, r2, hl2, e2⟩ := I.lstM hB
  refine PySem.P.add_list e e2 ?_ (by rw [List.size_toArray, List.size_toArray]; omega)
  have ea : its.toArray ++ its2.toArray = (its ++ its2).toArray := by simp
  rw [ea]
  exact ⟨.ref _, _, I.lnew (t' := s.toks) (r.append r2) (by rw [List.length_append]; omega), rfl, q _ I.fresh⟩
def rRep : R2 := fun x y H Q => ∃ l k xs, x = .ref l ∧ y = .int k ∧ H l = some (.lst xs) ∧ -(2 ^ 63) ≤ k ∧ k < 2 ^ 63 ∧ xs.length * k.toNat ≤ sizeLine ∧
  ∀ p, H p = none → Q (.ref p) (upd H p (.lst (List.replicate k.toNat xs).flatten))
theorem len_rep {α : Type} (xs : List α) (k : Nat) : (List.replicate k xs).flatten.length = k * xs.length := by
  induction k with
  | zero => simp
  | succ k ih => rw [List.replicate_succ, List.flatten_cons, List.length_append, ih, Nat.succ_mul, Nat.add_comm]
theorem op_rep : OpR X (binaryOp .Mult) rRep := by
  intro pins s σ H x y v u Q I rx ry h
  obtain ⟨l, k, xs, rfl, rfl, hH, h1, h2, hz, q⟩ := h
  cases rx
  obtain ⟨t, rfl⟩ := ry
  obtain ⟨z, its, n, r, hl, e⟩ := I.lstM hH
  have hlen : its.toArray.size * k.toNat ≤ sizeLine := by rw [List.size_toArray, ← hl]; exact hz
  have hcap : ¬ its.toArray.size * k.toNat > (2 ^ 63 - 1) / 8 := by
    have : (sizeLine : Nat) ≤ (2 ^ 63 - 1) / 8 := by decide
    omega
  have hfit : ¬ (!Builtin.List.listFitsIndex k) = true := by
    rw [fitsIndex_both h1 h2]
    exact Bool.false_ne_true
  have hlong : ¬ Builtin.List.listTooLong (its.toArray.size * k.toNat) = true := by
    rw [notLongL hlen]
    exact Bool.false_ne_true
  have hnew : List.foldl (fun x1 x2 => x1 ++ x2) #[] (List.replicate (if its.toArray.isEmpty = true then 0 else k.toNat) its.toArray) = (List.replicate k.toNat its).flatten.toArray := by
    have f0 : ∀ m : Nat, List.foldl (fun x1 x2 => x1 ++ x2) #[] (List.replicate m its.toArray) = (List.replicate m its).flatten.toArray := fun m => by
      have := foldl_rep its m []
      rw [List.nil_append] at this
      exact this
    rw [f0]
    cases its with
    | nil => simp
    | cons a r' => rw [if_neg (by simp)]
  refine wpAny_binaryOp_repeat_ref (T := "list") (U := "int") (by decide) ⟨_, e, rfl⟩ (fun s' => typeIs_int s' k t) noFill_list_mul F.fills_int_mul F.slot_int_rmul repeat_list F.slot_int_index.lookup
    (call_meets F.slot_int_rmul (typeIs_int s k t) F.entry_int_rmul (F.args_int_rmul_2 _ _) (int___rmul___int_list k t l its.toArray n)
      ⟨e, rfl, ⟨_, e, rfl⟩, call_meets F.slot_list_mul ⟨_, e, rfl⟩ F.entry_list_mul (F.args_list_mul_2 _ _) (AutoListH.list___mul___list_int_3 l its.toArray n k t hfit hcap hlong) ⟨e, ?_⟩⟩)
  rw [hnew]
  exact ⟨.ref _, _, I.lnew (t' := s.toks) (r.rep k.toNat) (by rw [len_rep, Nat.mul_comm]; exact hz), rfl, q _ I.fresh⟩
end
section
variable {prog : Program} {w : World} {A : Around} {E : Value → Shared → Prop} {s : Shared}
set_option maxRecDepth 100000 in
end
section
variable {X : Cx}
end
end L2
namespace Att
open PySem PySem.W PySem.Calls PyProof.Rows
theorem ints_of_wellAll {P : Params} {h : Heap} : ∀ (ns : List Int) (vs : List Value), WellAll P h vs (ns.map WData.int) → IntsAre vs ns := by
  intro ns
  induction ns with
  | nil =>
    intro vs w
    rw [List.map_nil] at w
    cases w
    exact .nil
  | cons n ns ih =>
    intro vs w
    rw [List.map_cons] at w
    cases w with
    | cons a b =>
      cases a
      exact .cons _ _ (ih _ b)
theorem script_of {l : OpenLaw} {n : Nat} (hn : l.most = some n) {P : Params} {h : Heap} {args : List WData} {vals : List Value}
    (hpre : l.row.toRowW.claim.pre args = true) (hwl : WellAll P h vals args) :
    ∃ a vs ns, vals = [Value.ref a] ∧ args = [WData.list (ns.map WData.int)] ∧ h.get? a = some { cls := .type "list", data := .seq vs.toArray } ∧ IntsAre vs ns ∧ ns.length ≤ n := by
  have hsh : WShape.hasAll [] args [.list .int] = true := (pre_splitW hpre).1
  have hc : l.pre.holds [] { args := args } = true := (pre_splitW hpre).2
  obtain ⟨d, r, rfl, h1, h2⟩ := hasAllW_cons hsh
  obtain rfl := hasAllW_nil h2
  obtain ⟨xs, rfl, h3⟩ := hasW_list h1
  obtain ⟨ns, rfl⟩ := items_int h3
  have hlen : ns.length ≤ n := by
    unfold OpenLaw.pre at hc
    have h4 : (WTm.not (.lt (.lit (.int (n : Int))) (.len (.arg 0)))).holds [] { args := [.list (ns.map .int)] } = true := by
      have h4 := (holds_andW hc).1
      rw [hn] at h4
      exact h4
    have h5 := condW_of h4 (w_not (w_lt w_lit (w_len_list (w_arg rfl))))
    rw [List.length_map] at h5
    refine Nat.le_of_not_lt fun q => ?_
    have q' : (n : Int) < ((ns.length : Nat) : Int) := by omega
    first
      | (rw [decide_eq_true q'] at h5; exact absurd h5 (by decide))
      | (simp at h5; omega)
  cases hwl with
  | cons w1 w2 =>
    cases w2
    cases w1 with
    | list ho hall => exact ⟨_, _, ns, rfl, rfl, ho, ints_of_wellAll ns _ hall, hlen⟩
theorem post_true (l : OpenLaw) (args : List WData) : l.row.toRowW.claim.post args (.bool true) args = true :=
  postW_of (r := l.row.toRowW) (X := (true == true))
    (show WShape.has [] (.bool true) .bool = true by first | rfl | decide | simp [WShape.has, WShape.arms, WShape.armsAll])
    (show (WTm.eq .res (.lit (.bool true))).value [] { args := args, res := some (.bool true), after := args } = some (.bool (true == true)) from w_eq_bool (w_res rfl) w_lit) rfl
theorem attach_call {l : OpenLaw} {n : Nat} {q : Program} {loose : List Str} {XP : (Str → Option Value) → Heap → Prop} {YP : World → Heap → Prop} {d : DefRec}
    (hn : l.most = some n) (hdf : d.params.defaults = [])
    (call : ∀ (w : World) (s₀ s₁ : Shared) (mg mb : Str → Option Value) (fa : Addr) (o : Obj) (pm cd doc : Value) (a : Addr) (vs : List Value) (ns : List Int),
      Ground q loose [] XP w s₀ mg mb s₁.heap → YP w s₁.heap →
      s₁.heap.get? fa = some o → o.data = .func (docDef d.name d.params d.body d.scope pm cd doc) → s₁.heap.CodeRec cd d.name → mg d.name = some (.ref fa) →
      s₁.heap.get? a = some { cls := .type "list", data := .seq vs.toArray } → IntsAre vs ns → ns.length ≤ n → s₁.gens = #[] →
      codeAny (model l.prog w) callerA (.call (.ref fa) ⟨[.ref a], []⟩) (fun r s' => r = .ok (.ret (.bool true)) ∧ OldK s₁.heap s'.heap ∧ s'.os = s₁.os ∧ AllBare s'.gens) s₁) :
    WalkO q loose XP YP l.row.toRowW d [] (fun f vs => PySem.call f vs) := by
  intro w s₀ s₁ mg mb G Y fa o pm cd doc dV kV ho hd hcd hD hmg hg args vals as hpre hlay hrd hwl hlo
  obtain rfl : dV = .none := Dflts.none hD hdf
  obtain rfl : kV = .none := Dflts.noKw hD
  obtain ⟨a, vs, ns, rfl, rfl, hobj, hints, hlen⟩ := script_of hn hpre hwl
  refine enter_call (codeAny_mono (call w s₀ s₁ mg mb fa o pm cd doc a vs ns G Y ho (fd_plain hd) hcd hmg hobj hints hlen hg) fun r s' hq => ?_)
  obtain ⟨rfl, h2, h3, h4⟩ := hq
  exact ⟨.inl ⟨.bool true, .bool true, [], rfl, fun _ => rfl, .bool true, post_true l _, fun _ => ⟨List.Pairwise.nil, fun _ hm => (nomatch hm)⟩⟩, h2, h3, h4⟩
section
variable {prog : Program} {w : World} {A : Around} {E : Value → Shared → Prop} {s : Shared} {K : Frag}
end
end Att
namespace L2
open PySem PySem.Spec PyProof.Rows
theorem vals_ints : ∀ {vs : List Value} {ns : List Int}, IntsAre vs ns → Vals (ns.map V.int) vs
  | _, _, .nil => .nil
  | _, _, .cons n t h => .cons ⟨t, rfl⟩ (vals_ints h)
def Only (H : Hp) : Prop := ∀ b, H b = none ∨ ∃ o xs, H b = some (.frz o (.lst xs))
theorem law_call {P : Program} {w : World} {K : PySem.W.Frag} {mg mb : Str → Option Value} {CX : CXT} {k : Nat} {fa a : Addr} {fd : FuncData} {x : Str} {sp : Sp} {s₁ : Shared} {vs : List Value} {ns : List Int}
    (KX : K.In s₁.heap) (hns : s₁.heap.Ns mainGlobals mg) (hb : s₁.heap.Ns builtinsNs mb) (hbb : ∀ x : Str, x ≠ "__name__" → mb x = bootBuiltins x) (hlim : s₁.heap.NoLimit) (hg : s₁.gens = #[])
    (ha : s₁.heap.get? a = some { cls := .type "list", data := .seq vs.toArray }) (hi : IntsAre vs ns) (hl : ns.length ≤ sizeLine) (hr : Room k callerA)
    (F : ∀ base : Heap, K.In base → base.Ns mainGlobals mg → FnOk P w K mg base CX k fa fd [x] sp) (hbind : ∀ (s : Shared) (u : Value), BindsTo s fd ⟨[u], []⟩ [(x, u)])
    (hsp : ∀ H : Hp, Only H → SqL K H a (ns.map V.int) → sp [.ref a] H (fun v _ => v = .bl true) fun _ _ _ => False)
    (hCX : ∀ H e s', CX [] H s₁ (fun _ _ _ => False) e s' → False) :
    codeAny (model P w) callerA (.call (.ref fa) ⟨[.ref a], []⟩) (fun r s' => r = .ok (.ret (.bool true)) ∧ OldK s₁.heap s'.heap ∧ s'.os = s₁.os ∧ AllBare s'.gens) s₁ := by
  have rv := vals_ints hi
  have lenV := hi.length
  have core : ∀ H : Hp, Only H → SqL K H a (ns.map V.int) → HOk P w H s₁.heap → (∀ b, H b ≠ none → b = a) → (H a ≠ none → K.lookup a = none) →
      codeAny (model P w) callerA (.call (.ref fa) ⟨[.ref a], []⟩) (fun r s' => r = .ok (.ret (.bool true)) ∧ OldK s₁.heap s'.heap ∧ s'.os = s₁.os ∧ AllBare s'.gens) s₁ := by
    intro H hO hS hok hA hK
    have base_of : ∀ {b : Addr} {o : Obj}, s₁.heap.get? b = some o → H b = none → (hidT s₁.heap H).get? b = some o := fun e n => hidT_get e n
    have noA : ∀ {b : Addr} {o : Obj} {es : Array DictEntry} {ep : Nat}, s₁.heap.get? b = some o → o.data = .dict es ep → H b = none := fun {b o es ep} e d => by
      cases q : H b with
      | none => rfl
      | some u =>
        have e' : b = a := hA b (by rw [q]; simp)
        subst e'
        rw [ha] at e; cases e
        have d' : Data.seq vs.toArray _ = Data.dict es ep := d
        cases d'
    have nsK : ∀ {b : Addr} {m : Str → Option Value}, s₁.heap.Ns b m → (hidT s₁.heap H).Ns b m := fun {b m} ⟨o, es, ep, e, d, r⟩ => ⟨o, es, ep, base_of e (noA e d), d, r⟩
    have hKb : K.In (hidT s₁.heap H) := fun b o e => base_of (KX b o e) (by
      cases q : H b with
      | none => rfl
      | some u =>
        have e' : b = a := hA b (by rw [q]; simp)
        subst e'
        rw [hK (by rw [q]; simp)] at e; cases e)
    have hM : Mod K mg (hidT s₁.heap H) := ⟨hKb, nsK hns, ⟨mb, nsK hb, hbb⟩, let ⟨mc, h1, h2⟩ := hlim; ⟨mc, nsK h1, h2⟩⟩
    have e0 : Env0 P w K mg (hidT s₁.heap H) callerA [] s₁ H := ⟨rfl, hM, fun b o e => of_hidT e, Nat.le_of_eq (hidT_size _ _), trivial, fun b hb => absurd (show b ∈ ([] : List Addr) from hb) (by simp), hok, .of_eq hg⟩
    refine codeAny_mono ((F _ hKb (nsK hns)).run callerA [] s₁ H ⟨[.ref a], []⟩ [.ref a] [.ref a] _ _ hr e0 (hbind s₁ (.ref a)) (.cons rfl .nil) (hsp H hO hS)) fun r s' h => ?_
    cases r with
    | error e => exact (hCX H e s' h).elim
    | ok fl =>
      cases fl with
      | next => exact False.elim h
      | brk => exact False.elim h
      | cont => exact False.elim h
      | ret u =>
        obtain ⟨v, H', os, bare, un, hok', r', q⟩ := h
        have q' : v = .bl true := q
        subst q'
        obtain rfl : u = Value.bool true := r'
        refine ⟨rfl, OldK.of_keep fun b o e => ?_, os, bare⟩
        cases q : H b with
        | none => exact un.keep b o e q (by intro z; exact absurd (show b ∈ ([] : List Addr) from z) (by simp)) (by simp)
        | some u =>
          rcases hO b with z | ⟨ob, xs, z⟩
          · rw [q] at z; cases z
          · have z2 := un.frzs b ob _ z
            obtain ⟨e1, _⟩ := hok b _ z
            obtain ⟨e2, _⟩ := hok' b _ z2
            rw [e] at e1; cases e1
            exact e2
  cases hk : K.lookup a with
  | some o =>
    have e := KX a o hk
    rw [ha] at e
    cases e
    refine core (fun _ => none) (fun _ => .inl rfl) (.inr ⟨_, vs.toArray, _, hk, rfl, rfl, rfl, by rw [List.size_toArray, lenV]; exact hl, by simpa using rv⟩) (fun b u z => by have z' : (none : Option HO) = some u := z; cases z') (fun b z => absurd rfl z) fun z => absurd rfl z
  | none =>
    refine core (fun b => if b = a then some (.frz { cls := .type "list", data := .seq vs.toArray } (.lst (ns.map V.int))) else none) (fun b => ?_) (.inl (.inr ⟨{ cls := .type "list", data := .seq vs.toArray }, if_pos rfl⟩)) (fun b u z => ?_) (fun b z => ?_) fun _ => hk
    · by_cases hb : b = a
      · exact .inr ⟨_, _, if_pos hb⟩
      · exact .inl (if_neg hb)
    · by_cases hb : b = a
      · have z' := (if_pos hb).symm.trans z
        cases z'
        subst hb
        exact ⟨ha, by rw [List.length_map]; exact hl, vs, _, rv, ha⟩
      · have z' := (if_neg hb).symm.trans z
        cases z'
    · by_cases hb : b = a
      · exact hb
      · exact absurd (if_neg hb) z
end L2
namespace L2
open PySem PySem.Spec PyProof.Rows
theorem walk_of {l : PySem.W.OpenLaw} {n k : Nat} {q : Program} {loose : List Str} {XP : (Str → Option Value) → Heap → Prop} {YP : World → Heap → Prop} {d : DefRec} {K : Params → PySem.W.Frag} {CX : World → CXT} {sp : World → Sp} {x : Str}
    (hn : l.most = some n) (hn2 : n ≤ sizeLine) (hdf : d.params.defaults = []) (hr : Room k callerA)
    (hY : ∀ (w : World) (h : Heap), YP w h → (K w.params).In h)
    (F : ∀ (w : World) (mg : Str → Option Value) (fa : Addr) (h : Heap), (K w.params).In h → h.Ns mainGlobals mg → mg d.name = some (.ref fa) →
      ∃ fd : FuncData, (∀ (s : Shared) (u : Value), BindsTo s fd ⟨[u], []⟩ [(x, u)]) ∧
        ∀ base : Heap, (K w.params).In base → base.Ns mainGlobals mg → FnOk l.prog w (K w.params) mg base (CX w) k fa fd [x] (sp w))
    (hsp : ∀ (w : World) (H : Hp) (a : Addr) (ns : List Int), ns.length ≤ n → Only H → SqL (K w.params) H a (ns.map V.int) → sp w [.ref a] H (fun v _ => v = .bl true) fun _ _ _ => False)
    (hCX : ∀ (w : World) (H : Hp) (s : Shared) (e : Value) (s' : Shared), CX w [] H s (fun _ _ _ => False) e s' → False) :
    PySem.W.WalkO q loose XP YP l.row.toRowW d [] (fun f vs => PySem.call f vs) := by
  refine Att.attach_call hn hdf fun w s₀ s₁ mg mb fa o pm cd doc a vs ns G Y ho hd hcd hmg hobj hints hlen hg => ?_
  have KX := hY w _ Y
  obtain ⟨fd, hb, hF⟩ := F w mg fa _ KX G.T.g hmg
  exact law_call KX G.T.g G.T.b G.T.builtins G.T.nolimit hg hobj hints (Nat.le_trans hlen hn2) hr hF hb (fun H hO hS => hsp w H a ns hlen hO hS) fun H e s' => hCX w H s₁ e s'
end L2
namespace L2
open PySem PySem.Spec PyProof.Rows
def inClass (s : Stmt) (j : Nat) : Stmt := match s with
  | .ClassDef _ _ _ body _ _ _ _ _ _ _ => body.getD j (.Pass ⟨0, 0, 0, 0⟩)
  | _ => .Pass ⟨0, 0, 0, 0⟩
def defArgs (s : Stmt) : Arguments := match s with
  | .FunctionDef _ a _ _ _ _ _ _ _ _ => a
  | _ => { posonlyargs := [], args := [], vararg := none, kwonlyargs := [], kw_defaults := [], kwarg := none, defaults := [] }
def defBody (s : Stmt) : List Stmt := match s with
  | .FunctionDef _ _ b _ _ _ _ _ _ _ => b
  | _ => []
def defScope (s : Stmt) : Scope := match s with
  | .FunctionDef _ _ _ _ _ _ sc _ _ _ => sc
  | _ => { kind := .function, names := [], isGenerator := false, isCoroutine := false }
abbrev CX0 : CXT := fun _ _ _ _ _ _ => False
abbrev E0 : XK := fun _ _ _ => False
structure Fun (K : PySem.W.Frag) (x qual : Str) (st : Stmt) (f : Addr) (fd : FuncData) : Prop where
  ex : ∃ (oc : Value) (od : Option Addr) (kV doc pm : Value) (an : Option Addr) (cdv ct : Value) (osl : Array (Option Value)),
    fd = PySem.W.fnOf x qual (defArgs st) (defBody st) (defScope st) .none kV doc pm an cdv ct ∧ K.lookup f = some ⟨oc, od, .func fd, osl⟩ ∧ PySem.W.codeIn K cdv qual = true
  kp : PySem.W.keepIn K (.ref f) = true
section
variable {P : Program} {w : World} {K : PySem.W.Frag} {mg : Str → Option Value} {base : Heap}
theorem Fun.ok {x qual : Str} {st : Stmt} {f : Addr} {fd : FuncData} {N ps : List Str} {k : Nat} {sp : Sp} (F : Fun K x qual st f fd) (S : FnScope N ps (defScope st)) (len : ∀ vs H Q E, sp vs H Q E → vs.length = ps.length)
    (hbody : ∀ (cdv : Value) (A : Around) (outer : List Env) (s : Shared) (H : Hp) (vs : List V) (Q : VK) (E : XK), Room k (A.deeper (envOfC qual (defScope st) s.heap.objs.size f cdv)) → sp vs H Q E →
      ∃ t, PSs (cxOf CX0 P w K mg base N qual (defScope st) f cdv A outer s H E).nox (defBody st) t ∧ t { nx := fun _ H' => Q .non H', rt := Q } (start N vs) H) : FnOk P w K mg base CX0 (k + 1) f fd ps sp := by
  obtain ⟨oc, od, kV, doc, pm, an, cdv, ct, osl, rfl, lk, hcd⟩ := F.ex
  refine fn_of lk hcd S len fun A outer s H vs Q E hr hsp => ?_
  obtain ⟨t, h, q⟩ := hbody cdv A outer s H vs Q E hr hsp
  exact ⟨t, h.nox, q⟩
theorem Fun.binds {x qual : Str} {st : Stmt} {f : Addr} {fd : FuncData} {ps : List Str} (F : Fun K x qual st f fd)
    (h : ∀ (kV doc pm : Value) (an : Option Addr) (cdv ct : Value) (us : List Value), us.length = ps.length → bindArgs (PySem.W.fnOf x qual (defArgs st) (defBody st) (defScope st) .none kV doc pm an cdv ct) ⟨us, []⟩ = pure (ps.zip us)) : Binds K fd ps [] := by
  obtain ⟨oc, od, kV, doc, pm, an, cdv, ct, osl, rfl, lk, hcd⟩ := F.ex
  exact .all (h kV doc pm an cdv ct)
theorem fun_mk {x qual : Str} {st : Stmt} {f : Addr} {oc : Value} {od an : Option Addr} {osl : Array (Option Value)} {kV doc pm cdv ct : Value} (l : K.lookup f = some ⟨oc, od, .func (PySem.W.fnOf x qual (defArgs st) (defBody st) (defScope st) .none kV doc pm an cdv ct), osl⟩)
    (c : PySem.W.codeIn K cdv qual = true) (k : PySem.W.keepIn K (.ref f) = true) : Fun K x qual st f (PySem.W.fnOf x qual (defArgs st) (defBody st) (defScope st) .none kV doc pm an cdv ct) := ⟨⟨oc, od, kV, doc, pm, an, cdv, ct, osl, rfl, l, c⟩, k⟩
end
section
variable {X : Cx}
theorem pv (i : Nat) {x : Str} {pos : Pos} (hN : X.N[i]? = some x := by rfl) (hv : Vis X.env.scope x := by first | exact Or.inl rfl | exact Or.inr (Or.inl rfl) | exact Or.inr (Or.inr rfl)) (hd : (x == ("__debug__" : Str)) = false := by decide)
    (hcd : (x == ("__classdict__" : Str)) = false := by decide) : PE X (.Name x pos) (tVar i) := pe_var hN hv hd hcd
end
theorem iteF {A B : Prop} (h : B) : if false = true then A else B := by
  rw [if_neg Bool.false_ne_true]
  exact h
theorem iteT {A B : Prop} (h : A) : if true = true then A else B := by
  rw [if_pos rfl]
  exact h
def Same (H H' : Hp) : Prop := ∀ b o, H b = some o → H' b = some o
theorem Same.refl (H : Hp) : Same H H := fun _ _ h => h
theorem Same.trans {H H1 H2 : Hp} (a : Same H H1) (b : Same H1 H2) : Same H H2 := fun c o h => b c o (a c o h)
theorem Same.free {H H' : Hp} (e : Same H H') {l : Addr} (h : H' l = Option.none) : H l = Option.none := by
  cases q : H l with
  | none => rfl
  | some o =>
    rw [e l o q] at h
    cases h
theorem Same.seq {K : PySem.W.Frag} {H H' : Hp} {a : Addr} {xs : List V} (e : Same H H') (h : SqL K H a xs) : SqL K H' a xs := by
  rcases h with (h | ⟨o, h⟩) | h
  · exact .inl (.inl (e _ _ h))
  · exact .inl (.inr ⟨o, e _ _ h⟩)
  · exact .inr h
end L2
set_option Elab.async false
set_option linter.all false
set_option maxRecDepth 100000
set_option maxHeartbeats 4000000
namespace L2
open PySem PySem.Spec PyProof.Rows
def closL (cells : List (Str × Addr)) : List (Str × NameKind) → List (Str × Addr) → List (Str × Addr)
  | [], acc => acc
  | (n, k) :: r, acc => if (k == NameKind.free) = true then (match cells.lookup n with | some c => closL cells r ((n, c) :: acc) | none => closL cells r acc) else closL cells r acc
theorem closL_eq {env : Env} : ∀ (names : List (Str × NameKind)) (acc : List (Str × Addr)), (∀ y ∈ names, y.2 = .free → ∃ c, env.cells.lookup y.1 = some c) →
    (forIn names acc fun (x : Str × NameKind) (r : List (Str × Addr)) => (do
      if (x.2 == NameKind.free) = true then do
        let c ← cellOf env x.1
        pure (ForInStep.yield ((x.1, c) :: r))
      else pure (ForInStep.yield r) : Sem (ForInStep (List (Str × Addr))))) = pure (closL env.cells names acc)
  | [], acc, _ => rfl
  | (n, k) :: r, acc, h => by
    rw [List.forIn_cons]
    by_cases hk : k = .free
    · subst hk
      obtain ⟨c, hc⟩ := h (n, .free) List.mem_cons_self rfl
      have e1 : cellOf env n = pure c := by unfold cellOf; rw [show env.cells.lookup n = some c from hc]
      simp only [beq_self_eq_true, if_true, e1, pure_bind, closL]
      rw [show env.cells.lookup n = some c from hc]
      exact closL_eq r _ fun y hy => h y (List.mem_cons_of_mem _ hy)
    · have hb : (k == NameKind.free) = false := by simpa using hk
      simp only [hb, Bool.false_eq_true, if_false, pure_bind, closL]
      exact closL_eq r _ fun y hy => h y (List.mem_cons_of_mem _ hy)
theorem closFor {scope : Scope} {env : Env} (h : ∀ y ∈ scope.names, y.2 = .free → ∃ c, env.cells.lookup y.1 = some c) : closureFor scope env = pure (closL env.cells scope.names []) := by
  have e := closL_eq (env := env) scope.names [] h
  unfold closureFor
  rw [← bind_pure (pure (closL env.cells scope.names []) : Sem (List (Str × Addr))), ← e]
theorem addr_ne {h : Heap} {b : Addr} {n : Nat} {o : Obj} (h1 : h.get? b = some o) (h2 : h.objs.size ≤ n) : b ≠ n := fun z => absurd (Heap.lt_size h1) (by rw [z]; exact Nat.not_lt.mpr h2)
theorem addr_lt {a : Nat} {b : Addr} {n : Nat} (h1 : b < a) (h2 : a ≤ n) : b ≠ n := fun z => absurd h1 (by rw [z]; exact Nat.not_lt.mpr h2)
theorem closL_sub {cells : List (Str × Addr)} {x : Str} {c : Addr} : ∀ {names : List (Str × NameKind)} {acc : List (Str × Addr)}, (∀ d, acc.lookup x = some d → cells.lookup x = some d) → (closL cells names acc).lookup x = some c → cells.lookup x = some c
  | [], acc, ha, h => ha c h
  | (n, k) :: r, acc, ha, h => by
    unfold closL at h
    split at h
    · split at h
      · rename_i d hd
        refine closL_sub (names := r) (fun e he => ?_) h
        by_cases hx : x = n
        · subst hx
          simp only [List.lookup_cons, beq_self_eq_true] at he
          rw [hd]; exact he
        · have hb : (x == n) = false := by simpa using hx
          simp only [List.lookup_cons, hb] at he
          exact ha e he
      · exact closL_sub (names := r) ha h
    · exact closL_sub (names := r) ha h
theorem closL_acc {cells : List (Str × Addr)} {x : Str} : ∀ {names : List (Str × NameKind)} {acc : List (Str × Addr)}, (∃ d, acc.lookup x = some d) → ∃ c, (closL cells names acc).lookup x = some c
  | [], acc, h => h
  | (n, k) :: r, acc, h => by
    unfold closL
    split
    · split
      · rename_i d hd
        refine closL_acc (names := r) ?_
        by_cases hx : x = n
        · subst hx; exact ⟨d, by simp [List.lookup_cons]⟩
        · have hb : (x == n) = false := by simpa using hx
          obtain ⟨e, he⟩ := h
          exact ⟨e, by simpa [List.lookup_cons, hb] using he⟩
      · exact closL_acc (names := r) h
    · exact closL_acc (names := r) h
theorem closL_has {cells : List (Str × Addr)} {x : Str} {c : Addr} (hc : cells.lookup x = some c) : ∀ {names : List (Str × NameKind)} {acc : List (Str × Addr)}, (x, NameKind.free) ∈ names → ∃ d, (closL cells names acc).lookup x = some d
  | [], _, h => nomatch h
  | (n, k) :: r, acc, h => by
    rcases List.mem_cons.mp h with e | h
    · cases e
      unfold closL
      rw [if_pos (by simp)]
      rw [hc]
      exact closL_acc ⟨c, by simp [List.lookup_cons]⟩
    · unfold closL
      split
      · split <;> exact closL_has hc (names := r) h
      · exact closL_has hc (names := r) h
theorem relabel_kind {env : Env} {x : Str} : ∀ {names : List (Str × NameKind)} {k : NameKind},
    (names.map fun (n, k) => if (k == NameKind.free && env.scope.kind == .function && env.kindOf n == some .cell) then (n, NameKind.cell) else (n, k)).lookup x = some k →
    names.lookup x = some k ∨ (k = .cell ∧ names.lookup x = some .free)
  | [], k, h => by simp at h
  | (n, k0) :: r, k, h => by
    have ih := @relabel_kind env x r k
    rw [List.map_cons] at h
    by_cases hx : x = n
    · subst hx
      by_cases hc : (k0 == NameKind.free && env.scope.kind == .function && env.kindOf x == some .cell) = true
      · simp only [hc, if_true, List.lookup_cons, beq_self_eq_true] at h
        have h0 : k0 = .free := by
          simp only [Bool.and_eq_true, beq_iff_eq] at hc
          exact hc.1.1
        subst h0
        cases h
        exact .inr ⟨rfl, by simp [List.lookup_cons]⟩
      · have hc' : (k0 == NameKind.free && env.scope.kind == .function && env.kindOf x == some .cell) = false := by simpa using hc
        simp only [hc', Bool.false_eq_true, if_false, List.lookup_cons, beq_self_eq_true] at h
        cases h
        exact .inl (by simp [List.lookup_cons])
    · have hb : (x == n) = false := by simpa using hx
      have e1 : ∀ (c : Bool), List.lookup x ((if c = true then (n, NameKind.cell) else (n, k0)) :: (r.map fun (n, k) => if (k == NameKind.free && env.scope.kind == .function && env.kindOf n == some .cell) then (n, NameKind.cell) else (n, k))) = List.lookup x (r.map fun (n, k) => if (k == NameKind.free && env.scope.kind == .function && env.kindOf n == some .cell) then (n, NameKind.cell) else (n, k)) := fun c => by
        cases c <;> simp [List.lookup_cons, hb]
      have h' := (e1 _).symm.trans h
      rcases ih h' with q | ⟨q1, q2⟩
      · exact .inl (by simpa [List.lookup_cons, hb] using q)
      · exact .inr ⟨q1, by simpa [List.lookup_cons, hb] using q2⟩
theorem mem_of_look {x : Str} {k : NameKind} : ∀ {names : List (Str × NameKind)}, names.lookup x = some k → (x, k) ∈ names
  | [], h => by simp at h
  | (n, k0) :: r, h => by
    by_cases hx : x = n
    · subst hx
      simp only [List.lookup_cons, beq_self_eq_true] at h
      cases h; exact List.mem_cons_self
    · have hb : (x == n) = false := by simpa using hx
      simp only [List.lookup_cons, hb] at h
      exact List.mem_cons_of_mem _ (mem_of_look h)
def subSt (k : Nat) (js : List Nat) (σ : St) : St := List.replicate k none ++ js.map fun j => (σ[j]?).join
def compCx (X : Cx) (N' : List Str) (scope : Scope) (C : Addr) (s₂ : Shared) (H₂ : Hp) (fp : List Addr) : Cx where
  prog := X.prog
  w := X.w
  K := X.K
  mg := X.mg
  base := X.base
  A := X.A
  N := N'
  s₀ := s₂
  H₀ := H₂
  env := compEnvC scope (closL X.env.cells scope.names []) C X.env
  outer := X.stack
  stack := X.stack
  ex := fp
  fn := fun _ => false
  calm := X.calm
  pn := []
  xe := fun _ _ => False
structure CompFit (X : Cx) (k : Nat) (js : List Nat) (N' : List Str) (scope : Scope) : Prop where
  kind : scope.kind = .function
  nocell : ∀ y ∈ scope.names, y.2 ≠ .cell
  loc : ∀ y ∈ scope.names, y.2 = .local → scope.names.lookup y.1 = some .local
  free : ∀ y ∈ scope.names, y.2 = .free → X.env.kindOf y.1 = some .cell ∨ X.env.kindOf y.1 = some .free
  len : N'.length = k + js.length
  at' : ∀ (i : Nat) (x : Str), N'[i]? = some x → k ≤ i → ∃ j, js[i - k]? = some j ∧ X.N[j]? = some x ∧ (X.env.kindOf x = some .cell ∨ X.env.kindOf x = some .free) ∧ scope.names.lookup x = some .free
section
variable {X : Cx} {pins : List (Addr × Obj)} {σ : St} {H : Hp} {s : Shared} {k : Nat} {js : List Nat} {N' : List Str} {scope : Scope}
theorem comp_ok {C : Addr} {fp : List Addr} (I : Inv X pins σ H s) (S : CompFit X k js N' scope) (hC : s.heap.objs.size ≤ C) (hf : ∀ b ∈ fp, FpOk X pins H b ∧ b < s.heap.objs.size) : (compCx X N' scope C s H fp).Ok where
  mod := I.ok.mod
  kind := S.kind
  glob := I.ok.glob
  blt := I.ok.blt
  above := hC
  inj := fun x y c h1 h2 => I.ok.inj x y c (closL_sub (fun d hd => by simp at hd) h1) (closL_sub (fun d hd => by simp at hd) h2)
  has := fun x hx => by
    have hx' : (relabel scope X.env).names.lookup x = some .cell ∨ (relabel scope X.env).names.lookup x = some .free := hx
    have hfree : scope.names.lookup x = some .free := by
      rcases hx' with h | h
      · rcases relabel_kind h with q | ⟨_, q⟩
        · exact absurd rfl (S.nocell _ (mem_of_look q))
        · exact q
      · rcases relabel_kind h with q | ⟨e, _⟩
        · exact q
        · cases e
    obtain ⟨c, hc⟩ := I.ok.has x (S.free _ (mem_of_look hfree) rfl)
    exact closL_has hc (mem_of_look hfree)
  cab := fun x c h _ => nomatch h
  hd := I.ok.hd
  frames := I.ok.frames
  stk := .inl rfl
  exf := fun b hb => ⟨fun e => absurd (hf b hb).2 (by have e' : b = C := e; rw [e']; exact Nat.not_lt.mpr hC), fun x c h => (hf b hb).1.2.2.2.2.1 x c (closL_sub (fun d hd => by simp at hd) h)⟩
  bs := I.bs
  bsz := Nat.le_trans I.ok.bsz I.sz
  noex := fun b o e hb => by
    rcases (hf b hb).1.2.2.2.1 with z | z
    · exact I.ok.noex b o e z
    · exact absurd (Nat.lt_of_lt_of_le (Heap.lt_size e) (Nat.le_trans I.ok.bsz z)) (Nat.lt_irrefl _)
  exfs := fun b hb z => by
    rcases List.mem_cons.mp (I.stkSub b z) with e | e
    · exact (hf b hb).1.2.1 e
    · exact (hf b hb).1.2.2.1 e
  funs := I.stack
  frf := I.stkFree
theorem comp_start {C : Addr} {fp : List Addr} {h₁ : Heap} {tk : Nat} {m : Str → Option Value} (I : Inv X pins σ H s) (S : CompFit X k js N' scope) (hC : s.heap.objs.size ≤ C) (hf : ∀ b ∈ fp, FpOk X pins H b ∧ b < s.heap.objs.size)
    (old : ∀ b o, s.heap.get? b = some o → h₁.get? b = some o) (hn : h₁.Ns C m) : Inv (compCx X N' scope C s H fp) [] (subSt k js σ) H { s with heap := h₁, toks := tk } := by
  refine ⟨comp_ok I S hC hf, rfl, I.bare, Un.kept old, ⟨m, hn, fun i x v h1 h2 h3 => ?_⟩, fun x c h => ?_, I.hok.fresh hC, fun x c h => I.freeC x c (closL_sub (fun d hd => by simp at hd) h), fun p hp => absurd (show p ∈ ([] : List (Addr × Obj)) from hp) (by simp), I.hok.kept old, ?_⟩
  · have hi : k ≤ i := by
      by_cases hi : k ≤ i
      · exact hi
      · unfold subSt at h2
        rw [List.getElem?_append_left (by simp; omega), List.getElem?_replicate] at h2
        split at h2 <;> cases h2
    obtain ⟨j, hj, hN, hk, hfree⟩ := S.at' i x h1 hi
    have hσ : σ[j]? = some (some v) := by
      unfold subSt at h2
      rw [List.getElem?_append_right (by simpa using hi), List.length_replicate, List.getElem?_map, hj] at h2
      simp only [Option.map_some] at h2
      have h2' : (σ[j]?).join = some v := Option.some.inj h2
      cases e : σ[j]? with
      | none => rw [e] at h2'; cases h2'
      | some z => rw [e] at h2'; simp only [Option.join] at h2'; rw [← h2']; rfl
    obtain ⟨m0, hn0, hl⟩ := I.loc
    have hv : Vis X.env.scope x := by
      rcases hk with h | h
      · exact .inr (.inl h)
      · exact .inr (.inr h)
    obtain ⟨u, r, l⟩ := hl j x v hN hσ hv
    refine ⟨u, r, ?_⟩
    rcases l with ⟨hk', _⟩ | ⟨_, c, hc, hcell⟩
    · rcases hk with h | h <;> (rw [hk'] at h; cases h)
    · obtain ⟨d, hd⟩ := closL_has (names := scope.names) (acc := []) hc (mem_of_look hfree)
      have hdc : d = c := Option.some.inj ((closL_sub (fun d hd => by simp at hd) hd).symm.trans hc)
      subst hdc
      refine .inr ⟨?_, d, hd, hcell.keeps old⟩
      have h3' : (relabel scope X.env).names.lookup x = some .local ∨ (relabel scope X.env).names.lookup x = some .cell ∨ (relabel scope X.env).names.lookup x = some .free := h3
      rcases h3' with h | h | h
      · rcases relabel_kind h with q | ⟨e, _⟩
        · rw [hfree] at q; cases q
        · cases e
      · exact .inl h
      · exact .inr h
  · obtain ⟨v, hv⟩ := I.cell x c (closL_sub (fun d hd => by simp at hd) h)
    exact ⟨v, hv.keeps old⟩
  · unfold subSt
    show _ = N'.length
    rw [List.length_append, List.length_replicate, List.length_map, S.len]
end
section
variable {prog : Program} {w : World} {A : Around} {R : Result → Shared → Prop} {s : Shared}
def NoX : Value → Shared → Prop := fun _ _ => False
theorem comp_turns {elt target iter : Expr} {ifs : List Expr} {scope : Scope} {pos : Pos} {it acc : Value} {env : Env} (I : Nat → Shared → Prop)
    (turn : ∀ n s, I n s → wpAny (model prog w) A (pyNext it) (fun r s₁ => match r with
      | none => R (.ok .next) s₁
      | some v => wpAny (model prog w) A (letOwnedTupleGo target it v) (fun _ s₁' => wpAny (model prog w) A (assign target env v) (fun _ s₂ =>
          wpAny (model prog w) A (forIn ifs true fun c r => if r = true then (do let ok ← isTrue c env (eval c env); pure (ForInStep.yield ok)) else pure (ForInStep.yield r)) (fun ok s₃ =>
            if ok = true then wpAny (model prog w) A (eval elt env) (fun x s₄ => wpAny (model prog w) A (call (.builtin "list.append") [acc, x]) (fun _ s₅ => ∃ m, m < n ∧ I m s₅) NoX s₄) NoX s₃
            else ∃ m, m < n ∧ I m s₃) NoX s₂) NoX s₁') NoX s₁) NoX s)
    (n : Nat) (h : I n s) : codeAny (model prog w) A (.compLoop (.ListComp elt [⟨target, iter, ifs, 0⟩] scope pos) 0 it acc env) R s := by
  refine codeAny_loop rfl I (fun n s hI => ?_) n h
  refine wpAny_noted (m := compTurn (.ListComp elt [⟨target, iter, ifs, 0⟩] scope pos) 0 it acc env) ?_
  rw [compTurn_list]
  refine wpAny_bind (wpAny_standAt (wpAny_bind (wpAny_mono (turn n s hI) (fun r s₁ h₁ => ?_) fun _ _ h' => h'.elim)))
  cases r with
  | none => exact wpAny_pure h₁
  | some v =>
    refine wpAny_bind (wpAny_mono h₁ (fun _ s₁' h₁' => ?_) fun _ _ h' => h'.elim)
    refine wpAny_bind (wpAny_mono h₁' (fun _ s₂ h₂ => wpAny_bind (wpAny_mono h₂ (fun ok s₃ h₃ => ?_) fun _ _ h' => h'.elim)) fun _ _ h' => h'.elim)
    cases ok with
    | false => exact wpAny_pure ⟨rfl, h₃⟩
    | true =>
      refine wpAny_bind (wpAny_bind (wpAny_mono h₃ (fun x s₄ h₄ => ?_) fun _ _ h' => h'.elim))
      exact wpAny_bind (wpAny_mono h₄ (fun _ s₅ h₅ => wpAny_pure (wpAny_pure ⟨rfl, h₅⟩)) fun _ _ h' => h'.elim)
end
def PF (X : Cx) (ifs : List Expr) (t : TT) : Prop :=
  ∀ (pins : List (Addr × Obj)) (s : Shared) (σ : St) (H : Hp) (Q : Bool → Hp → Prop), Inv X pins σ H s → t σ H Q →
    wpAny (model X.prog X.w) X.A (forIn ifs true fun c r => if r = true then (do let ok ← isTrue c X.env (eval c X.env); pure (ForInStep.yield ok)) else pure (ForInStep.yield r)) (TP X pins σ Q) X.xe s
def tYes : TT := fun _ H Q => Q true H
theorem pf_nil {X : Cx} : PF X [] tYes := fun _ _ _ H _ I h => wpAny_tests_nil ⟨H, I, h⟩
theorem pf_one {X : Cx} {c : Expr} {t : TT} (h : PT X c t) : PF X [c] t := fun pins s σ H Q I hw => wpAny_tests_one (h pins s σ H Q I hw)
def tComp (wi : TI) (k : Nat) (js : List Nat) (g : TG) (tc : TT) (te : TE) : TE := fun σ H Q => wi σ H fun J H1 => ∃ W : Nat → Nat → St → Hp → List V → Prop, (∃ m, W 0 m (subSt k js σ) H1 []) ∧ ∀ i m σ' H' xs, W i m σ' H' xs →
  (J.stop i H' ∧ xs.length ≤ sizeLine ∧ ∀ p, H' p = none → Q (.ref p) (upd H' p (.lst xs))) ∨
  (J.go i H' ∧ xs.length < sizeLine ∧ ∀ x H2, J.yld i H' x H2 → g x σ' H2 fun σ2 H3 => tc σ2 H3 fun b H4 => if b = true then te σ2 H4 fun v H5 => ∃ m', m' < m ∧ W (i + 1) m' σ2 H5 (xs ++ [v]) else ∃ m', m' < m ∧ W (i + 1) m' σ2 H4 xs)
section
variable {X : Cx} {k : Nat} {js : List Nat} {N' : List Str} {scope : Scope} {elt tg iter : Expr} {ifs : List Expr} {pos : Pos} {wi : TI} {g : TG} {tc : TT} {te : TE}
theorem pe_comp (S : CompFit X k js N' scope) (hc : X.calm = true) (hi : PI X tg iter wi)
    (hg : ∀ C s₂ H₂ fp, PG (compCx X N' scope C s₂ H₂ fp) tg g) (hf : ∀ C s₂ H₂ fp, PF (compCx X N' scope C s₂ H₂ fp) ifs tc) (he : ∀ C s₂ H₂ fp, PE (compCx X N' scope C s₂ H₂ fp) elt te)
    (hs : ∀ x, foldedSetIterable iter X.env x = pure x := by intro _; rfl) : PE X (.ListComp elt [⟨tg, iter, ifs, 0⟩] scope pos) (tComp wi k js g tc te) := by
  intro pins s σ H Q I h
  rw [eval_ListComp]
  refine wpAny_comprehension_free (use := none) rfl hs (closFor fun y hy hk => I.ok.has y.1 (S.free y hy hk)) S.kind S.loc ?_
  refine thn (hi pins s σ H _ I h) fun v s1 h1 => thn h1 fun itv s₂ h2 => ?_
  obtain ⟨it, fp, tn, J, H₂, rfl, I2, T, st2, f2, W, ⟨m0, w0⟩, turn⟩ := h2
  have lt2 : ∀ b ∈ fp, b < s₂.heap.objs.size := fun b hb => by obtain ⟨o, e, _⟩ := T.obj 0 _ st2 b hb; exact Heap.lt_size e
  refine wpAny_newObj_type (wpAny_newFunctionEnv S.nocell (by intro y hy; simp at hy) (fun h₁ hns₁ hsb₁ => ?_) S.kind)
  dsimp only at hns₁ hsb₁ ⊢
  generalize hH2 : s₂.heap.push { cls := .type "list", dict := none, data := .seq ([] : List Value).toArray } = G at hns₁ hsb₁ ⊢
  have hC : G.objs.size = s₂.heap.objs.size + 1 := by rw [← hH2, Heap.size_push]
  have hDC : s₂.heap.objs.size ≠ G.objs.size := by omega
  have hCle : s₂.heap.objs.size ≤ G.objs.size := by omega
  have old : ∀ b o, s₂.heap.get? b = some o → h₁.get? b = some o := fun b o e => hsb₁.extBut b o (addr_ne e hCle) (Heap.get?_push_of_some _ (hH2 ▸ Heap.get?_push_of_some _ e))
  have hacc : h₁.get? s₂.heap.objs.size = some { cls := .type "list", data := .seq ([] : List Value).toArray } := hsb₁.extBut _ _ hDC (Heap.get?_push_of_some _ (hH2 ▸ Heap.get?_push_size _ rfl))
  have hf2 : ∀ b ∈ fp, FpOk X pins H₂ b ∧ b < s₂.heap.objs.size := fun b hb => ⟨f2 b hb, lt2 b hb⟩
  have I0 : ∀ tk, Inv (compCx X N' scope G.objs.size s₂ H₂ fp) [] (subSt k js σ) H₂ { s₂ with heap := h₁, toks := tk } := fun tk => comp_start I2 S hCle hf2 old hns₁
  generalize hD : s₂.heap.objs.size = D at *
  have hDnone : ∀ {H' : Hp} {s' : Shared} {σ' : St} {pp : List (Addr × Obj)} {o : Obj}, Inv (compCx X N' scope G.objs.size s₂ H₂ fp) (pp ++ [(D, o)]) σ' H' s' → H' D = none ∧ s'.heap.get? D = some o := fun {H' s' σ' pp o} J => by
    have q := J.pin (D, o) (List.mem_append_right _ (List.mem_append_right _ (List.mem_singleton.mpr rfl)))
    exact ⟨q.2.1, q.1⟩
  have hDfs : D ∉ frs X.stack := fun z => by
    obtain ⟨_, o, ho, _⟩ := I2.stack.mem z
    exact addr_ne ho (Nat.le_of_eq hD) rfl
  have hDcell : ∀ x c, (compCx X N' scope G.objs.size s₂ H₂ fp).env.cells.lookup x = some c → c ≠ D := fun x c e z => by
    obtain ⟨v, q⟩ := I2.cell x c (closL_sub (fun d hd => by simp at hd) e)
    exact addr_lt q.lt (Nat.le_of_eq hD) z
  have stat : ∀ {H' : Hp} {pp : List (Addr × Obj)}, (∀ b ∈ fp, H' b = none) → (∀ p ∈ pp, p.1 = D) → ∀ b ∈ fp, FpOk (compCx X N' scope G.objs.size s₂ H₂ fp) pp H' b := fun {H' pp} hn hp b hb => by
    refine ⟨hn b hb, fun z => ?_, fun z => ?_, .inl hb, fun x c e => (hf2 b hb).1.2.2.2.2.1 x c (closL_sub (fun d hd => by simp at hd) e), fun p hp' z => ?_⟩
    · exact addr_lt (lt2 b hb) hCle z
    · rcases List.mem_cons.mp (I2.stkSub b z) with e | e
      · exact (hf2 b hb).1.2.1 e
      · exact (hf2 b hb).1.2.2.1 e
    · have e1 : p.1 = D := hp p (by simpa [compCx] using hp')
      exact addr_lt (lt2 b hb) (Nat.le_refl _) (z.symm.trans e1)
  have pinD : ∀ {σ' : St} {H' : Hp} {s' : Shared} {ys : List Value} {c : Nat}, Inv (compCx X N' scope G.objs.size s₂ H₂ fp) [] σ' H' s' → s'.heap.get? D = some { cls := .type "list", data := .seq ys.toArray c } → H' D = none →
      Inv (compCx X N' scope G.objs.size s₂ H₂ fp) [(D, { cls := .type "list", data := .seq ys.toArray c })] σ' H' s' := fun {σ' H' s' ys c} J e n => J.pins_of fun p hp => by
    have e1 := List.mem_singleton.mp hp
    subst e1
    exact ⟨e, n, hDC, hDfs, fun v z => by cases z⟩
  have loop : ∀ s₃ : Shared, (∃ tk, s₃ = { s₂ with heap := h₁, toks := tk }) → codeAny (model X.prog X.w) X.A (.compLoop (.ListComp elt [⟨tg, iter, ifs, 0⟩] scope pos) 0 (.ref it) (.ref D) (compCx X N' scope G.objs.size s₂ H₂ fp).env)
      (compPost (model X.prog X.w) X.A X.xe none (EP X pins σ Q) (.ref D) G.objs.size) s₃ := by
    rintro s₃ ⟨tk, rfl⟩
    refine comp_turns (fun n s' => ∃ i σ' H' xs ys c, Inv (compCx X N' scope G.objs.size s₂ H₂ fp) [] σ' H' s' ∧ tn i s'.heap ∧ (∀ b ∈ fp, H' b = none) ∧ H' D = none ∧ s'.heap.get? D = some { cls := .type "list", data := .seq ys.toArray c } ∧ Vals xs ys ∧ W i n σ' H' xs)
      ?_ m0 ⟨0, _, H₂, [], [], 0, I0 tk, T.keep _ _ _ st2 fun b hb o e => old b o e, fun b hb => (f2 b hb).1, I2.hok.fresh (by omega), hacc, .nil, w0⟩
    rintro n s' ⟨i, σ', H', xs, ys, c, J', st', fr', nD, eD, rv, w'⟩
    have J1 := pinD J' eD nD
    rcases turn i n σ' H' xs w' with ⟨stop, hz, fin⟩ | ⟨go, hz, step⟩
    · refine thn (T.done (compCx X N' scope G.objs.size s₂ H₂ fp) rfl rfl rfl hc i _ s' σ' H' _ J1 (stat fr' fun p hp => by rw [List.mem_singleton.mp hp]) st' stop) fun r s4 ⟨hr, J4⟩ => ?_
      subst hr
      obtain ⟨nD4, eD4⟩ := hDnone (pp := []) J4
      obtain ⟨mC, hnC, _⟩ := J4.loc
      refine ⟨mC, hnC, fun h' hs' => ?_⟩
      have keep4 : ∀ b o, b ≠ G.objs.size → s4.heap.get? b = some o → h'.get? b = some o := fun b o hb e => hs'.extBut b o hb e
      have hC4 : H' G.objs.size = none := J4.free
      have hun : Un (frs X.stack) fp H₂ (upd H' D (.lst xs)) s₂.heap h' := by
        have u := J4.base
        have neD : ∀ b o, s₂.heap.get? b = some o → b ≠ D := fun b o e => addr_ne e (Nat.le_of_eq hD)
        have neC : ∀ b o, s₂.heap.get? b = some o → b ≠ G.objs.size := fun b o e => addr_ne e (by rw [hD]; exact hCle)
        have neD' : ∀ b o, H₂ b = some o → b ≠ D := fun b o e => addr_lt (I2.hok.lt e) (Nat.le_of_eq hD)
        refine ⟨fun b o e n hb hx => keep4 b o (neC b o e) (u.keep b o e n hb hx), fun b o e n hb hx => ?_, fun b o e n hx => by rw [upd_ne (neD b o e)]; exact u.free b o e n hx, fun b o e hx => ?_,
          fun b xs e => by rw [upd_ne (neD' b _ e)]; exact u.tups b xs e, fun b o z e => by rw [upd_ne (neD' b _ e)]; exact u.frzs b o z e, fun b ps e => by rw [upd_ne (neD' b _ e)]; exact u.tbls b ps e⟩
        · obtain ⟨sl, q⟩ := u.slot b o e n hb hx
          exact ⟨sl, keep4 b _ (neC b o e) q⟩
        · obtain ⟨o', q⟩ := u.there b o e hx
          exact ⟨o', keep4 b _ (neC b o e) q⟩
      have hok4 : HOk X.prog X.w (upd H' D (.lst xs)) h' := by
        intro b u e
        by_cases hb : b = D
        · subst hb
          rw [upd_same] at e
          cases e
          exact ⟨hz, ys, c, rv, keep4 _ _ hDC eD4⟩
        · rw [upd_ne hb] at e
          have hnD : ∀ a o, H' a = some o → a ≠ D := fun a o e z => by rw [z, nD4] at e; cases e
          refine (J4.hok b u e).stay (fun a v ha q => keep4 a v ?_ q) (fun a q => by rw [upd_ne (hnD a _ q)]; exact q) fun a zs q => by rw [upd_ne (hnD a _ q)]; exact q
          rintro rfl
          rcases ha with z | z
          · rw [← z, hC4] at e; cases e
          · rw [hC4] at z; cases z
      refine ⟨.ref D, upd H' D (.lst xs), I2.call' (s' := { s4 with heap := h' }) J4.os hun hok4 J4.bare fun b hb => ?_, rfl, fin D nD4⟩
      exact ⟨(f2 b hb).2.2.2.1, (f2 b hb).2.1, (f2 b hb).2.2.2.2.1, (f2 b hb).2.2.2.2.2⟩
    · refine thn (T.item (compCx X N' scope G.objs.size s₂ H₂ fp) rfl rfl rfl hc i _ s' σ' H' NoX J1 (stat fr' fun p hp => by rw [List.mem_singleton.mp hp]) st' go) fun r s4 ⟨u, hr, h4⟩ => ?_
      subst hr
      refine thn h4 fun _ s5 ⟨x, H5, I5, r5, y5, st5, fr5⟩ => ?_
      have I5' := I5.pinned (stat fr5 fun p hp => by rw [List.mem_singleton.mp hp]) (T.obj _ _ st5)
      refine thn (hg _ _ _ _ _ s5 σ' H5 x u _ I5' r5 (step x H5 y5)) fun _ s6 ⟨σ6, H6, I6, q6⟩ => ?_
      refine thn (hf _ _ _ _ _ s6 σ6 H6 _ I6 q6) fun ok s7 ⟨H7, I7, q7⟩ => ?_
      have back : ∀ {σ8 : St} {H8 : Hp} {s8 : Shared}, Inv (compCx X N' scope G.objs.size s₂ H₂ fp) ([(D, { cls := .type "list", data := .seq ys.toArray c })] ++ pinsAt fp s5.heap) σ8 H8 s8 →
          Inv (compCx X N' scope G.objs.size s₂ H₂ fp) [] σ8 H8 s8 ∧ tn (i + 1) s8.heap ∧ (∀ b ∈ fp, H8 b = none) ∧ H8 D = none ∧ s8.heap.get? D = some { cls := .type "list", data := .seq ys.toArray c } := fun {σ8 H8 s8} J => by
        have pd := J.pin (D, { cls := .type "list", data := .seq ys.toArray c }) (List.mem_append_right _ (List.mem_append_left _ (List.mem_singleton.mpr rfl)))
        have pf : ∀ b ∈ fp, ∀ o, s5.heap.get? b = some o → s8.heap.get? b = some o ∧ H8 b = none := fun b hb o e => by
          have q := J.pin (b, o) (List.mem_append_right _ (List.mem_append_right _ (mem_pinsAt hb e)))
          exact ⟨q.1, q.2.1⟩
        refine ⟨J.pins_of fun p hp => absurd hp (by simp), T.keep _ _ _ st5 fun b hb o e => (pf b hb o e).1, fun b hb => ?_, pd.2.1, pd.1⟩
        obtain ⟨o, e, _⟩ := T.obj _ _ st5 b hb
        exact (pf b hb o e).2
      cases ok with
      | false =>
        simp only [Bool.false_eq_true, if_false] at q7 ⊢
        obtain ⟨m', hm, w7⟩ := q7
        obtain ⟨b1, b2, b3, b4, b5⟩ := back I7
        exact ⟨m', hm, i + 1, σ6, H7, xs, ys, c, b1, b2, b3, b4, b5, rv, w7⟩
      | true =>
        simp only [if_true] at q7 ⊢
        refine thn (he _ _ _ _ _ s7 σ6 H7 _ I7 q7) fun u8 s8 ⟨v8, H8, I8, r8, q8⟩ => ?_
        obtain ⟨m', hm, w8⟩ := q8
        obtain ⟨b1, b2, b3, b4, b5⟩ := back I8
        refine append_at b5 (fun h9 hs9 e9 => ?_) (by rw [List.size_toArray, ← rv.length]; exact Nat.le_of_lt hz)
        have I9 : Inv (compCx X N' scope G.objs.size s₂ H₂ fp) [] σ6 H8 { s8 with heap := h9 } := b1.turned (t' := s8.toks) (it := D) (fun b o hb e => (hs9.2 b hb).trans e) b4 hDC (.inr (by show s₂.heap.objs.size ≤ D; omega)) hDcell fun p hp => absurd (show p ∈ ([] : List (Addr × Obj)) from hp) (by simp)
        refine ⟨m', hm, i + 1, σ6, H8, xs ++ [v8], ys ++ [u8], c + 1, I9, T.keep _ _ _ b2 fun b hb o e => (hs9.2 b ?_).trans e, b3, b4, ?_, Vals.append rv (.cons r8 .nil), w8⟩
        · exact addr_lt (lt2 b hb) (Nat.le_refl _)
        · rw [e9, List.push_toArray]
  exact codeAny_compStart_list (loop _ ⟨_, rfl⟩) (T.self _ 0 _ _ _ (T.keep _ _ _ st2 fun b hb o e => old b o e) (loop _ ⟨_, rfl⟩))
end
end L2
set_option Elab.async false
set_option linter.all false
set_option maxRecDepth 100000
set_option maxHeartbeats 4000000
namespace L3
open PySem PySem.Spec PyProof.Rows
def cI (st : Bool) (i j : Int) : Bool := if st = true then decide (i < j) else decide (i ≤ j)
def cS (st : Bool) (x y : Str) : Bool := if st = true then decide (x.cps.toList < y.cps.toList) else !decide (y.cps.toList < x.cps.toList)
mutual
def cD (st : Bool) : PyData → PyData → Option Bool
  | .int i, .int j => some (cI st i j)
  | .str x, .str y => some (cS st x y)
  | .tuple xs, .tuple ys => cL st xs ys
  | _, _ => none
def cL (st : Bool) : List PyData → List PyData → Option Bool
  | [], [] => some (!st)
  | [], _ :: _ => some true
  | _ :: _, [] => some false
  | x :: xs, y :: ys => if PyData.eqv x y = true then cL st xs ys else cD st x y
end
def cOp (st : Bool) : CmpOp := if st = true then .Lt else .LtE
def RcL (A : Around) (s : Shared) (st : Bool) (a b : Value) (k : Bool) : Prop :=
  ∀ (prog : Program) (w : World) (E : Value → Shared → Prop) (Q : Value → Shared → Prop), Q (.bool k) s → wpAny (model prog w) A (richCompare (cOp st) a b) Q E s
theorem cL_sizes {st : Bool} {k : Bool} : ∀ {xs ys : List PyData} {vs ws : List Value} {as bs : List Addr} {h : Heap}, ReadsAll h vs xs as → ReadsAll h ws ys bs → vs.zip ws = [] → cL st xs ys = some k →
    k = (if st = true then decide (vs.length < ws.length) else decide (vs.length ≤ ws.length))
  | _, _, _, _, _, _, _, .nil, .nil, _, e => by
    unfold cL at e; cases e; cases st <;> rfl
  | _, _, _, _, _, _, _, .nil, .cons _ _, _, e => by
    unfold cL at e; cases e; cases st <;> simp
  | _, _, _, _, _, _, _, .cons _ _, .nil, _, e => by
    unfold cL at e; cases e; cases st <;> simp
  | _, _, _, _, _, _, _, .cons _ _, .cons _ _, z, _ => by cases z
section
open PySem.SeqAt
open PySem.AutoSeq1 (wpAny_loadPart')
open PySem.MeetsSeq PySem.MeetsSeq2 PySem.MeetsSeq3
theorem tuple_lt_data (l b : Addr) (items items2 : Array Value) (n n2 : Nat) (dd dd2 : Option Addr) (sl sl2 : Array (Option Value)) (xs ys : List PyData) (k : Bool) (hk : cL true xs ys = some k)
    (ih : ∀ (A : Around) (s : Shared) (x y : PyData) (a c : Value) (as bs : List Addr) (j : Bool), x ∈ xs → Reads s.heap a x as → Reads s.heap c y bs → x.canLay0 = true → y.canLay0 = true → A.units + x.depth < cLine → cD true x y = some j → RcL A s true a c j) :
    Meets (Builtin.«tuple.__lt__» ⟨[.ref l, .ref b], []⟩)
      (fun A R s => s.heap.get? l = some { cls := .type "tuple", dict := dd, data := .seq items n, slots := sl } ∧ s.heap.get? b = some { cls := .type "tuple", dict := dd2, data := .seq items2 n2, slots := sl2 } ∧
        (∃ as, ReadsAll s.heap items.toList xs as) ∧ (∃ as, ReadsAll s.heap items2.toList ys as) ∧ PyData.canLayAll0 xs = true ∧ PyData.canLayAll0 ys = true ∧ A.units + 1 + PyData.depthAll xs < cLine ∧ R (.ok (.ret (.bool k))) s) :=
  .of_wp fun prog w A R s h => by
    obtain ⟨hp, g, d, tk, os⟩ := s; obtain ⟨hl, hb, ⟨as, hi⟩, ⟨bs, hj⟩, c1, c2, hu, h⟩ := h
    have f2 := AutoSeq1.sub_tuple_tuple
    wp_walk using wpAny_loadPart' hl, wpAny_loadPart' hb, wpAny_forIn_list _ (fun rest b s' => b.1 = none ∧ s' = ⟨hp, g, d, tk, os⟩ ∧ ∃ (vs ws : List Value) (xs' ys' : List PyData) (as' bs' : List Addr), rest = vs.zip ws ∧
      ReadsAll hp vs xs' as' ∧ ReadsAll hp ws ys' bs' ∧ vs.length + items2.size = ws.length + items.size ∧ (∀ x ∈ xs', x ∈ xs) ∧ PyData.canLayAll0 xs' = true ∧ PyData.canLayAll0 ys' = true ∧ PyData.depthAll xs' ≤ PyData.depthAll xs ∧ cL true xs' ys' = some k) _
    case turn =>
      rintro ⟨y, x⟩ rest b s' ⟨hb', rfl, vs, ws, xs', ys', as', bs', hz, hvi, hwi, hlen, hsub, l1, l2, hdp, hc⟩
      cases hvi with
      | nil => rw [List.zip_nil_left] at hz; cases hz
      | @cons v1 vs1 x1 xs1 a1 as1 rv hvi' =>
        cases hwi with
        | nil => rw [List.zip_nil_right] at hz; cases hz
        | @cons w1 ws1 y1 ys1 b1 bs1 rw1 hwi' =>
          rw [List.zip_cons_cons] at hz
          injection hz with hyx hrest
          injection hyx with hy hx
          subst hy hx
          unfold PyData.canLayAll0 at l1 l2
          rw [Bool.and_eq_true] at l1 l2
          unfold cL at hc
          have hdc : PyData.depthAll (x1 :: xs1) = max x1.depth (PyData.depthAll xs1) := by rw [PyData.depthAll]
          rw [hdc] at hdp
          simp only [List.length_cons] at hlen
          have he := eqAt_reads x1 y1 A.in1 ⟨hp, g, d, tk, os⟩ _ _ _ _ rv rw1 l1.1 l2.1 (by show A.units + 1 + _ < cLine; omega)
          refine wpAny_bind (he prog w _ _ ?_)
          cases e : PyData.eqv x1 y1 with
          | true =>
            rw [e, if_pos rfl] at hc
            wp_walk
            exact ⟨rfl, rfl, _, _, _, _, _, _, hrest, hvi', hwi', by omega, fun z hz => hsub z (List.mem_cons_of_mem _ hz), l1.2, l2.2, by omega, hc⟩
          | false =>
            rw [e, if_neg Bool.false_ne_true] at hc
            have hri : ∀ (E : Value → Shared → Prop) (Q : Value → Shared → Prop), Q (.bool k) ⟨hp, g, d, tk, os⟩ → wpAny (model prog w) A.in1 (richCompare .Lt _ _) Q E ⟨hp, g, d, tk, os⟩ := ih A.in1 ⟨hp, g, d, tk, os⟩ x1 y1 _ _ _ _ k (hsub x1 List.mem_cons_self) rv rw1 l1.1 l2.1 (by show A.units + 1 + _ < cLine; omega) hc prog w
            wp_walk using hri
            exact ⟨_, rfl, by simpa using h⟩
    case fin =>
      rintro ⟨b1, b2⟩ s' ⟨hb', rfl, vs, ws, xs', ys', as', bs', hz, hvi, hwi, hlen, hsub, l1, l2, hdp, hc⟩
      simp only at hb'
      subst hb'
      have hv := cL_sizes hvi hwi hz.symm hc
      simp only [if_true] at hv
      have hv2 : decide (vs.length < ws.length) = decide (items.size < items2.size) := by
        by_cases q : vs.length < ws.length
        · rw [decide_eq_true q, decide_eq_true (by omega)]
        · rw [decide_eq_false q, decide_eq_false (by omega)]
      rw [hv2] at hv
      rw [hv] at h
      wp_walk
      exact ⟨_, rfl, by simpa [Builtin.Tuple.tupleCompareSizes] using h⟩
    case h =>
      exact ⟨rfl, rfl, items.toList, items2.toList, xs, ys, as, bs, rfl, hi, hj, by simp; omega, fun _ hx => hx, c1, c2, Nat.le_refl _, hk⟩
theorem tuple_le_data (l b : Addr) (items items2 : Array Value) (n n2 : Nat) (dd dd2 : Option Addr) (sl sl2 : Array (Option Value)) (xs ys : List PyData) (k : Bool) (hk : cL false xs ys = some k)
    (ih : ∀ (A : Around) (s : Shared) (x y : PyData) (a c : Value) (as bs : List Addr) (j : Bool), x ∈ xs → Reads s.heap a x as → Reads s.heap c y bs → x.canLay0 = true → y.canLay0 = true → A.units + x.depth < cLine → cD false x y = some j → RcL A s false a c j) :
    Meets (Builtin.«tuple.__le__» ⟨[.ref l, .ref b], []⟩)
      (fun A R s => s.heap.get? l = some { cls := .type "tuple", dict := dd, data := .seq items n, slots := sl } ∧ s.heap.get? b = some { cls := .type "tuple", dict := dd2, data := .seq items2 n2, slots := sl2 } ∧
        (∃ as, ReadsAll s.heap items.toList xs as) ∧ (∃ as, ReadsAll s.heap items2.toList ys as) ∧ PyData.canLayAll0 xs = true ∧ PyData.canLayAll0 ys = true ∧ A.units + 1 + PyData.depthAll xs < cLine ∧ R (.ok (.ret (.bool k))) s) :=
  .of_wp fun prog w A R s h => by
    obtain ⟨hp, g, d, tk, os⟩ := s; obtain ⟨hl, hb, ⟨as, hi⟩, ⟨bs, hj⟩, c1, c2, hu, h⟩ := h
    have f2 := AutoSeq1.sub_tuple_tuple
    wp_walk using wpAny_loadPart' hl, wpAny_loadPart' hb, wpAny_forIn_list _ (fun rest b s' => b.1 = none ∧ s' = ⟨hp, g, d, tk, os⟩ ∧ ∃ (vs ws : List Value) (xs' ys' : List PyData) (as' bs' : List Addr), rest = vs.zip ws ∧
      ReadsAll hp vs xs' as' ∧ ReadsAll hp ws ys' bs' ∧ vs.length + items2.size = ws.length + items.size ∧ (∀ x ∈ xs', x ∈ xs) ∧ PyData.canLayAll0 xs' = true ∧ PyData.canLayAll0 ys' = true ∧ PyData.depthAll xs' ≤ PyData.depthAll xs ∧ cL false xs' ys' = some k) _
    case turn =>
      rintro ⟨y, x⟩ rest b s' ⟨hb', rfl, vs, ws, xs', ys', as', bs', hz, hvi, hwi, hlen, hsub, l1, l2, hdp, hc⟩
      cases hvi with
      | nil => rw [List.zip_nil_left] at hz; cases hz
      | @cons v1 vs1 x1 xs1 a1 as1 rv hvi' =>
        cases hwi with
        | nil => rw [List.zip_nil_right] at hz; cases hz
        | @cons w1 ws1 y1 ys1 b1 bs1 rw1 hwi' =>
          rw [List.zip_cons_cons] at hz
          injection hz with hyx hrest
          injection hyx with hy hx
          subst hy hx
          unfold PyData.canLayAll0 at l1 l2
          rw [Bool.and_eq_true] at l1 l2
          unfold cL at hc
          have hdc : PyData.depthAll (x1 :: xs1) = max x1.depth (PyData.depthAll xs1) := by rw [PyData.depthAll]
          rw [hdc] at hdp
          simp only [List.length_cons] at hlen
          have he := eqAt_reads x1 y1 A.in1 ⟨hp, g, d, tk, os⟩ _ _ _ _ rv rw1 l1.1 l2.1 (by show A.units + 1 + _ < cLine; omega)
          refine wpAny_bind (he prog w _ _ ?_)
          cases e : PyData.eqv x1 y1 with
          | true =>
            rw [e, if_pos rfl] at hc
            wp_walk
            exact ⟨rfl, rfl, _, _, _, _, _, _, hrest, hvi', hwi', by omega, fun z hz => hsub z (List.mem_cons_of_mem _ hz), l1.2, l2.2, by omega, hc⟩
          | false =>
            rw [e, if_neg Bool.false_ne_true] at hc
            have hri : ∀ (E : Value → Shared → Prop) (Q : Value → Shared → Prop), Q (.bool k) ⟨hp, g, d, tk, os⟩ → wpAny (model prog w) A.in1 (richCompare .LtE _ _) Q E ⟨hp, g, d, tk, os⟩ := ih A.in1 ⟨hp, g, d, tk, os⟩ x1 y1 _ _ _ _ k (hsub x1 List.mem_cons_self) rv rw1 l1.1 l2.1 (by show A.units + 1 + _ < cLine; omega) hc prog w
            wp_walk using hri
            exact ⟨_, rfl, by simpa using h⟩
    case fin =>
      rintro ⟨b1, b2⟩ s' ⟨hb', rfl, vs, ws, xs', ys', as', bs', hz, hvi, hwi, hlen, hsub, l1, l2, hdp, hc⟩
      simp only at hb'
      subst hb'
      have hv := cL_sizes hvi hwi hz.symm hc
      simp only [Bool.false_eq_true, if_false] at hv
      have hv2 : decide (vs.length ≤ ws.length) = decide (items.size ≤ items2.size) := by
        by_cases q : vs.length ≤ ws.length
        · rw [decide_eq_true q, decide_eq_true (by omega)]
        · rw [decide_eq_false q, decide_eq_false (by omega)]
      rw [hv2] at hv
      rw [hv] at h
      wp_walk
      exact ⟨_, rfl, by simpa [Builtin.Tuple.tupleCompareSizes] using h⟩
    case h =>
      exact ⟨rfl, rfl, items.toList, items2.toList, xs, ys, as, bs, rfl, hi, hj, by simp; omega, fun _ hx => hx, c1, c2, Nat.le_refl _, hk⟩
end
theorem rcL_reads : ∀ (n : Nat) (st : Bool) (da db : PyData) (A : Around) (s : Shared) (a b : Value) (as bs : List Addr) (k : Bool), sizeOf da < n → Reads s.heap a da as → Reads s.heap b db bs → da.canLay0 = true → db.canLay0 = true →
    A.units + da.depth < cLine → cD st da db = some k → RcL A s st a b k
  | 0, _, _, _, _, _, _, _, _, _, _, h, _, _, _, _, _, _ => absurd h (Nat.not_lt_zero _)
  | n + 1, st, da, db, A, s, a, b, as, bs, k, hn, ra, rb, ha, hb, hu, hk => by
    intro prog w E Q hQ
    cases ra with
    | none => cases db <;> simp [cD] at hk
    | bool x => cases db <;> simp [cD] at hk
    | list _ _ _ _ => cases db <;> simp [cD] at hk
    | dict _ _ _ _ _ => cases db <;> simp [cD] at hk
    | int i t =>
      cases rb with
      | int j u =>
        simp only [cD] at hk
        cases hk
        cases st with
        | true => exact (PyProof.Rows.lt_int hQ : wpAny (model prog w) A (compareOp .Lt (.int i t) (.int j u)) Q E s)
        | false => exact (PyProof.Rows.le_int hQ : wpAny (model prog w) A (compareOp .LtE (.int i t) (.int j u)) Q E s)
      | _ => simp [cD] at hk
    | str x t =>
      cases rb with
      | str y u =>
        simp only [cD] at hk
        cases hk
        cases st with
        | true => exact (PySem.P.lt_str hQ : wpAny (model prog w) A (compareOp .Lt (.str x t) (.str y u)) Q E s)
        | false => exact (PySem.P.le_str (by simpa [cS] using hQ) : wpAny (model prog w) A (compareOp .LtE (.str x t) (.str y u)) Q E s)
      | _ => simp [cD] at hk
    | @tuple a o vs n1 xs as e1 c1 d1 l1 =>
      cases rb with
      | @tuple b o2 ws n2 ys bs e2 c2 d2 l2 =>
        simp only [cD] at hk
        unfold PyData.canLay0 at ha hb
        unfold PyData.depth at hu
        obtain ⟨cls, dd, data, sl⟩ := o
        obtain ⟨cls2, dd2, data2, sl2⟩ := o2
        simp only at c1 d1 c2 d2
        subst c1 d1 c2 d2
        have ih : ∀ (A : Around) (s : Shared) (x y : PyData) (a c : Value) (as bs : List Addr) (j : Bool), x ∈ xs → Reads s.heap a x as → Reads s.heap c y bs → x.canLay0 = true → y.canLay0 = true → A.units + x.depth < cLine → cD st x y = some j → RcL A s st a c j :=
          fun A s x y a c as bs j hx r1 r2 k1 k2 hu' hj => rcL_reads n st x y A s a c as bs j (by
            have := List.sizeOf_lt_of_mem hx
            simp only [PyData.tuple.sizeOf_spec] at hn
            omega) r1 r2 k1 k2 hu' hj
        cases st with
        | true =>
          exact richCompare_meets_room (op := .Lt) ⟨_, e1, rfl⟩ ⟨_, e2, rfl⟩ PySem.F.slot_tuple_lt PySem.F.entry_tuple_lt (PySem.F.args_tuple_lt_2 _ _) (tuple_lt_data a b vs ws n1 n2 dd dd2 sl sl2 xs ys k hk ih)
            ⟨e1, e2, ⟨_, l1⟩, ⟨_, l2⟩, ha, hb, by omega, show Value.bool k ≠ Value.notImplemented ∧ Q (.bool k) s from ⟨(fun x => nomatch x), hQ⟩⟩ (by omega)
        | false =>
          exact richCompare_meets_room (op := .LtE) ⟨_, e1, rfl⟩ ⟨_, e2, rfl⟩ PySem.F.slot_tuple_le PySem.F.entry_tuple_le (PySem.F.args_tuple_le_2 _ _) (tuple_le_data a b vs ws n1 n2 dd dd2 sl sl2 xs ys k hk ih)
            ⟨e1, e2, ⟨_, l1⟩, ⟨_, l2⟩, ha, hb, by omega, show Value.bool k ≠ Value.notImplemented ∧ Q (.bool k) s from ⟨(fun x => nomatch x), hQ⟩⟩ (by omega)
      | _ => simp [cD] at hk
end L3
set_option Elab.async false
set_option linter.all false
set_option maxRecDepth 100000
set_option maxHeartbeats 4000000
set_option autoImplicit false
namespace L3
open PySem PySem.Spec L2
open PyProof.Rows hiding St
abbrev D := PyData
mutual
inductive Rp (Z : List Addr) (H : Hp) : D → V → Prop
  | none : Rp Z H .none .non
  | bool (b : Bool) : Rp Z H (.bool b) (.bl b)
  | int (i : Int) : Rp Z H (.int i) (.int i)
  | str (x : Str) : PyData.strOk x = true → Rp Z H (.str x) (.str x)
  | tup {a : Addr} {xs : List D} {vs : List V} : a ∉ Z → H a = some (.tup vs) → RpL Z H xs vs → Rp Z H (.tuple xs) (.ref a)
  | lst {a : Addr} {xs : List D} {vs : List V} : a ∉ Z → H a = some (.lst vs) → RpL Z H xs vs → Rp Z H (.list xs) (.ref a)
inductive RpL (Z : List Addr) (H : Hp) : List D → List V → Prop
  | nil : RpL Z H [] []
  | cons {d : D} {v : V} {ds : List D} {vs : List V} : Rp Z H d v → RpL Z H ds vs → RpL Z H (d :: ds) (v :: vs)
end
structure Kp (Z : List Addr) (H : Hp) (Z' : List Addr) (H' : Hp) : Prop where
  keep : ∀ a o, a ∉ Z → H a = some o → H' a = some o
  new : ∀ a, a ∈ Z' → a ∈ Z ∨ H a = none
theorem Kp.same {Z : List Addr} {H H' : Hp} (h : Same H H') : Kp Z H Z H' := ⟨fun a o _ e => h a o e, fun _ h => .inl h⟩
theorem Kp.refl {Z : List Addr} {H : Hp} : Kp Z H Z H := .same (Same.refl H)
theorem Kp.at {Z Z' : List Addr} {H H' : Hp} {a : Addr} {u : HO} (k : Kp Z H Z' H') (hz : a ∉ Z) (e : H a = some u) : a ∉ Z' ∧ H' a = some u :=
  ⟨fun h => (k.new a h).elim hz fun z => (by rw [e] at z; cases z), k.keep a u hz e⟩
theorem Same.rd {H H' : Hp} {a : Addr} {u : HO} (h : Same H H') (r : Rd H a u) : Rd H' a u := by
  rcases r with e | ⟨o, e⟩
  · exact .inl (h _ _ e)
  · exact .inr ⟨o, h _ _ e⟩
mutual
theorem Rp.kp {Z Z' : List Addr} {H H' : Hp} (k : Kp Z H Z' H') : ∀ {d : D} {v : V}, Rp Z H d v → Rp Z' H' d v
  | _, _, .none => .none
  | _, _, .bool b => .bool b
  | _, _, .int i => .int i
  | _, _, .str x h => .str x h
  | _, _, .tup hz r l => .tup (k.at hz r).1 (k.at hz r).2 (RpL.kp k l)
  | _, _, .lst hz r l => .lst (k.at hz r).1 (k.at hz r).2 (RpL.kp k l)
theorem RpL.kp {Z Z' : List Addr} {H H' : Hp} (k : Kp Z H Z' H') : ∀ {ds : List D} {vs : List V}, RpL Z H ds vs → RpL Z' H' ds vs
  | _, _, .nil => .nil
  | _, _, .cons r l => .cons (Rp.kp k r) (RpL.kp k l)
end
theorem Kp.trans {Z Z1 Z2 : List Addr} {H H1 H2 : Hp} (a : Kp Z H Z1 H1) (b : Kp Z1 H1 Z2 H2) : Kp Z H Z2 H2 := by
  refine ⟨fun c o hc e => ?_, fun c hc => ?_⟩
  · exact b.keep c o (fun h => (a.new c h).elim hc fun z => by rw [e] at z; cases z) (a.keep c o hc e)
  · rcases b.new c hc with z | z
    · exact a.new c z
    · by_cases hz : c ∈ Z
      · exact .inl hz
      · refine .inr ?_
        cases q : H c with
        | none => rfl
        | some o => rw [a.keep c o hz q] at z; cases z
theorem Kp.sub {Z Z' : List Addr} {H : Hp} (h : ∀ a, a ∈ Z' → a ∈ Z) : Kp Z H Z' H := ⟨fun _ _ _ e => e, fun a ha => .inl (h a ha)⟩
theorem RpL.length {Z : List Addr} {H : Hp} : ∀ {ds : List D} {vs : List V}, RpL Z H ds vs → ds.length = vs.length
  | _, _, .nil => rfl
  | _, _, .cons _ l => by simp [RpL.length l]
theorem RpL.get {Z : List Addr} {H : Hp} : ∀ {ds : List D} {vs : List V} {i : Nat} {d : D}, RpL Z H ds vs → ds[i]? = some d → ∃ v, vs[i]? = some v ∧ Rp Z H d v
  | _, _, _, _, .nil, h => by simp at h
  | _, _, 0, _, .cons r _, h => by simp at h; subst h; exact ⟨_, rfl, r⟩
  | _, _, i + 1, d, .cons _ l, h => by
    obtain ⟨v, e, r⟩ := RpL.get (i := i) (d := d) l (by simpa using h)
    exact ⟨v, by simpa using e, r⟩
theorem RpL.append {Z : List Addr} {H : Hp} : ∀ {ds es : List D} {vs us : List V}, RpL Z H ds vs → RpL Z H es us → RpL Z H (ds ++ es) (vs ++ us)
  | _, _, _, _, .nil, s => s
  | _, _, _, _, .cons r l, s => .cons r (RpL.append l s)
theorem RpL.take {Z : List Addr} {H : Hp} : ∀ {ds : List D} {vs : List V} (n : Nat), RpL Z H ds vs → RpL Z H (ds.take n) (vs.take n)
  | _, _, 0, _ => .nil
  | _, _, _ + 1, .nil => .nil
  | _, _, n + 1, .cons r l => .cons r (RpL.take n l)
theorem RpL.drop {Z : List Addr} {H : Hp} : ∀ {ds : List D} {vs : List V} (n : Nat), RpL Z H ds vs → RpL Z H (ds.drop n) (vs.drop n)
  | _, _, 0, l => l
  | _, _, _ + 1, .nil => .nil
  | _, _, n + 1, .cons _ l => RpL.drop n l
theorem RpL.rep {Z : List Addr} {H : Hp} {ds : List D} {vs : List V} (h : RpL Z H ds vs) : ∀ k : Nat, RpL Z H (List.replicate k ds).flatten (List.replicate k vs).flatten
  | 0 => .nil
  | k + 1 => by
    rw [List.replicate_succ, List.replicate_succ, List.flatten_cons, List.flatten_cons]
    exact h.append (RpL.rep h k)
mutual
theorem Rp.reads {X : Cx} {pins : List (Addr × Obj)} {σ : St} {H : Hp} {s : Shared} (I : Inv X pins σ H s) {Z : List Addr} : ∀ {d : D} {v : V} {u : Value}, Rp Z H d v → RelV v u → ∃ as, Reads s.heap u d as
  | _, _, _, .none, r => by cases r; exact ⟨_, .none⟩
  | _, _, _, .bool b, r => by cases r; exact ⟨_, .bool b⟩
  | _, _, _, .int i, r => by obtain ⟨t, rfl⟩ := r; exact ⟨_, .int i t⟩
  | _, _, _, .str x _, r => by obtain ⟨t, rfl⟩ := r; exact ⟨_, .str x t⟩
  | _, _, _, .tup hz q l, r => by
    cases r
    obtain ⟨its, rv, ⟨o, e, c, n, dd⟩, _⟩ := I.tuple (SqT.of q)
    obtain ⟨as, ra⟩ := RpL.reads I l rv
    exact ⟨_, .tuple e c dd (by simpa using ra)⟩
  | _, _, _, .lst hz q l, r => by
    cases r
    obtain ⟨its, rv, ⟨o, n, e, c, _, dd⟩, _⟩ := I.list (SqL.of q)
    obtain ⟨as, ra⟩ := RpL.reads I l rv
    exact ⟨_, .list e c dd (by simpa using ra)⟩
theorem RpL.reads {X : Cx} {pins : List (Addr × Obj)} {σ : St} {H : Hp} {s : Shared} (I : Inv X pins σ H s) {Z : List Addr} : ∀ {ds : List D} {vs : List V} {us : List Value}, RpL Z H ds vs → Vals vs us → ∃ as, ReadsAll s.heap us ds as
  | _, _, _, .nil, r => by cases r; exact ⟨_, .nil⟩
  | _, _, _, .cons p l, r => by
    cases r with
    | cons r rr =>
      obtain ⟨as, h1⟩ := Rp.reads I p r
      obtain ⟨bs, h2⟩ := RpL.reads I l rr
      exact ⟨_, .cons h1 h2⟩
end
mutual
theorem Rp.lay {Z : List Addr} {H : Hp} : ∀ {d : D} {v : V}, Rp Z H d v → d.canLay0 = true
  | _, _, .none => rfl
  | _, _, .bool _ => rfl
  | _, _, .int _ => rfl
  | _, _, .str x h => by unfold PyData.canLay0; exact h
  | _, _, .tup _ _ l => by unfold PyData.canLay0; exact RpL.lay l
  | _, _, .lst _ _ l => by unfold PyData.canLay0; exact RpL.lay l
theorem RpL.lay {Z : List Addr} {H : Hp} : ∀ {ds : List D} {vs : List V}, RpL Z H ds vs → PyData.canLayAll0 ds = true
  | _, _, .nil => rfl
  | _, _, .cons r l => by unfold PyData.canLayAll0; rw [Rp.lay r, RpL.lay l]; rfl
end
def KL (K : PySem.W.Frag) (a : Addr) (xs : List V) : Prop := ∃ (o : Obj) (its : Array Value) (n : Nat), K.lookup a = some o ∧ o.cls = .type "list" ∧ o.dict = none ∧ o.data = .seq its n ∧ its.size ≤ sizeLine ∧ Vals xs its.toList
inductive DV where
  | d (x : D)
  | ob (C : Addr) (fs : List (Str × D))
  | own (xs : List D)
  | new (xs : List D)
  | scr (K : PySem.W.Frag) (ns : List Int)
abbrev DS := List (Option DV)
def FsR (Z : List Addr) (H : Hp) : List (Str × D) → List (Str × V) → Prop := Paired fun (p : Str × D) (q : Str × V) => p.1 = q.1 ∧ Rp Z H p.2 q.2
def ObR (Z : List Addr) (H : Hp) (C : Addr) (fs : List (Str × D)) (v : V) : Prop := ∃ a dx gs, v = .ref a ∧ a ∉ Z ∧ H a = some (.ins C dx gs) ∧ FsR Z H fs gs
def OwR (P Z : List Addr) (H : Hp) (xs : List D) (v : V) : Prop := ∃ a vs, v = .ref a ∧ a ∈ P ∧ H a = some (.lst vs) ∧ RpL Z H xs vs
def RE (O P : List Addr) (H H' : Hp) : DV → V → Prop
  | .d x, v => Rp (P ++ O) H' x v
  | .ob C fs, v => ObR (P ++ O) H' C fs v
  | .own xs, v => OwR P (P ++ O) H' xs v
  | .new xs, v => ∃ a vs, v = .ref a ∧ H a = none ∧ H' a = some (.lst vs) ∧ RpL (a :: (P ++ O)) H' xs vs
  | .scr K ns, v => ∃ a, v = .ref a ∧ ((a ∉ P ++ O ∧ Rd H' a (.lst (ns.map V.int))) ∨ KL K a (ns.map V.int))
structure RS (O P : List Addr) (H : Hp) (σ : St) (δ : DS) : Prop where
  len : σ.length = δ.length
  dom : ∀ a, a ∈ P ++ O → ∃ o, H a = some o
  apart : ∀ a, a ∈ P → a ∉ O
  at' : ∀ (i : Nat) (x : DV), δ[i]? = some (some x) → ∃ v, σ[i]? = some (some v) ∧ (∀ xs, x ≠ .new xs) ∧ RE O P H H x v
  one : ∀ (i j : Nat) (xs ys : List D) (v : V), δ[i]? = some (some (.own xs)) → δ[j]? = some (some (.own ys)) → σ[i]? = some (some v) → σ[j]? = some (some v) → i = j
theorem FsR.kp {Z Z' : List Addr} {H H' : Hp} (k : Kp Z H Z' H') {fs : List (Str × D)} {gs : List (Str × V)} (h : FsR Z H fs gs) : FsR Z' H' fs gs := Paired.mapP h fun _ _ r => ⟨r.1, r.2.kp k⟩
theorem ObR.kp {Z Z' : List Addr} {H H' : Hp} (k : Kp Z H Z' H') {C : Addr} {fs : List (Str × D)} {v : V} (h : ObR Z H C fs v) : ObR Z' H' C fs v := by
  obtain ⟨a, dx, gs, e, hz, ha, hf⟩ := h
  refine ⟨a, dx, gs, e, fun hz' => ?_, k.keep _ _ hz ha, hf.kp k⟩
  rcases k.new a hz' with z | z
  · exact hz z
  · rw [ha] at z; cases z
theorem RS.same {O P : List Addr} {H H' : Hp} {σ : St} {δ : DS} (r : RS O P H σ δ) (h : Same H H') : RS O P H' σ δ := by
  refine ⟨r.len, fun a ha => ?_, r.apart, fun i x e => ?_, r.one⟩
  · obtain ⟨o, e⟩ := r.dom a ha
    exact ⟨o, h a o e⟩
  · obtain ⟨v, e1, e2, e3⟩ := r.at' i x e
    refine ⟨v, e1, e2, ?_⟩
    cases x with
    | d x => exact Rp.kp (.same h) e3
    | ob C fs => exact ObR.kp (.same h) e3
    | own xs =>
      obtain ⟨a, vs, ev, hP, ha, hl⟩ := e3
      exact ⟨a, vs, ev, hP, h a _ ha, hl.kp (.same h)⟩
    | new xs => exact absurd rfl (e2 xs)
    | scr K ns =>
      obtain ⟨a, ev, hz⟩ := e3
      exact ⟨a, ev, hz.imp (fun z => ⟨z.1, Same.rd h z.2⟩) fun z => z⟩
theorem RE.on {O P : List Addr} {H H1 H2 : Hp} {x : DV} {v : V} (r : RE O P H H1 x v) (h : Same H1 H2) : RE O P H H2 x v := by
  cases x with
  | d x => exact Rp.kp (.same h) r
  | ob C fs => exact ObR.kp (.same h) r
  | own xs =>
    obtain ⟨a, vs, ev, hP, ha, hl⟩ := r
    exact ⟨a, vs, ev, hP, h a _ ha, hl.kp (.same h)⟩
  | new xs =>
    obtain ⟨a, vs, ev, hn, ha, hl⟩ := r
    exact ⟨a, vs, ev, hn, h a _ ha, hl.kp (.same h)⟩
  | scr K ns =>
    obtain ⟨a, ev, hz⟩ := r
    exact ⟨a, ev, hz.imp (fun z => ⟨z.1, Same.rd h z.2⟩) fun z => z⟩
theorem RE.from {O P : List Addr} {H H1 H2 : Hp} {x : DV} {v : V} (r : RE O P H1 H2 x v) (h : Same H H1) : RE O P H H2 x v := by
  cases x with
  | d x => exact r
  | ob C fs => exact r
  | own xs => exact r
  | new xs =>
    obtain ⟨a, vs, ev, hn, ha, hl⟩ := r
    exact ⟨a, vs, ev, h.free hn, ha, hl⟩
  | scr K ns => exact r
abbrev M (α : Type) := Option (Except Value α)
def bd {α β : Type} (m : M α) (f : α → M β) : M β := match m with
  | none => none
  | some (.error c) => some (.error c)
  | some (.ok a) => f a
def rt {α : Type} (a : α) : M α := some (.ok a)
@[simp] theorem bd_rt {α β : Type} (a : α) (f : α → M β) : bd (rt a) f = f a := rfl
@[simp] theorem bd_ok {α β : Type} (a : α) (f : α → M β) : bd (some (.ok a)) f = f a := rfl
@[simp] theorem bd_none {α β : Type} (f : α → M β) : bd (none : M α) f = none := rfl
@[simp] theorem bd_err {α β : Type} (c : Value) (f : α → M β) : bd (some (.error c) : M α) f = some (.error c) := rfl
def op {α : Type} (o : Option α) : M α := match o with
  | none => none
  | some a => some (.ok a)
@[simp] theorem op_some {α : Type} (a : α) : op (some a) = rt a := rfl
@[simp] theorem op_none {α : Type} : op (none : Option α) = none := rfl
theorem bd_cases {α β : Type} {m : M α} {f : α → M β} {r : Except Value β} (h : bd m f = some r) : (∃ a, m = some (.ok a) ∧ f a = some r) ∨ (∃ c, m = some (.error c) ∧ r = .error c) := by
  cases m with
  | none => cases h
  | some e =>
    cases e with
    | ok a => exact .inl ⟨a, rfl, h⟩
    | error c => exact .inr ⟨c, rfl, by cases h; rfl⟩
def asD : DV → Option D
  | .d x => some x
  | .new xs => some (.list xs)
  | _ => none
def asL : DV → Option (List D)
  | .d (.list xs) => some xs
  | .own xs => some xs
  | .new xs => some xs
  | _ => none
def asA : DV → Option DV
  | .d x => some (.d x)
  | .ob C fs => some (.ob C fs)
  | .new xs => some (.d (.list xs))
  | .scr K ns => some (.scr K ns)
  | _ => none
@[simp] theorem asA_scr (K : PySem.W.Frag) (ns : List Int) : asA (.scr K ns) = some (.scr K ns) := rfl
@[simp] theorem asD_d (x : D) : asD (.d x) = some x := rfl
@[simp] theorem asD_new (xs : List D) : asD (.new xs) = some (.list xs) := rfl
@[simp] theorem asL_d (xs : List D) : asL (.d (.list xs)) = some xs := rfl
@[simp] theorem asL_own (xs : List D) : asL (.own xs) = some xs := rfl
@[simp] theorem asL_new (xs : List D) : asL (.new xs) = some xs := rfl
@[simp] theorem asA_d (x : D) : asA (.d x) = some (.d x) := rfl
@[simp] theorem asA_ob (C : Addr) (fs : List (Str × D)) : asA (.ob C fs) = some (.ob C fs) := rfl
@[simp] theorem asA_new (xs : List D) : asA (.new xs) = some (.d (.list xs)) := rfl
section
variable {O P : List Addr} {H H' : Hp} {x : DV} {v : V}
theorem new_data {xs : List D} (dom : ∀ a, a ∈ P ++ O → ∃ o, H a = some o) (r : RE O P H H' (.new xs) v) : Rp (P ++ O) H' (.list xs) v := by
  obtain ⟨a, vs, rfl, hn, ha, hl⟩ := r
  refine .lst (fun h => ?_) ha (hl.kp (.sub fun b hb => List.mem_cons_of_mem _ hb))
  obtain ⟨o, e⟩ := dom a h
  rw [e] at hn; cases hn
theorem RE.data {d : D} (dom : ∀ a, a ∈ P ++ O → ∃ o, H a = some o) (r : RE O P H H' x v) (h : asD x = some d) : Rp (P ++ O) H' d v := by
  cases x with
  | d y => cases h; exact r
  | ob C fs => cases h
  | own xs => cases h
  | new xs => cases h; exact new_data dom r
  | scr K ns => cases h
theorem RE.list {xs : List D} (r : RE O P H H' x v) (h : asL x = some xs) : ∃ a vs, v = .ref a ∧ H' a = some (.lst vs) ∧ RpL (P ++ O) H' xs vs := by
  cases x with
  | d y =>
    cases y <;> simp only [asL] at h <;> try cases h
    have r' : Rp (P ++ O) H' _ v := r
    cases r' with
    | lst hz q l => exact ⟨_, _, rfl, q, l⟩
  | ob C fs => cases h
  | own ys =>
    cases h
    obtain ⟨a, vs, rfl, hP, ha, hl⟩ := r
    exact ⟨a, vs, rfl, ha, hl⟩
  | new ys =>
    cases h
    obtain ⟨a, vs, rfl, hn, ha, hl⟩ := r
    exact ⟨a, vs, rfl, ha, hl.kp (.sub fun b hb => List.mem_cons_of_mem _ hb)⟩
  | scr K ns => cases h
theorem RE.arg {y : DV} (dom : ∀ a, a ∈ P ++ O → ∃ o, H a = some o) (r : RE O P H H' x v) (h : asA x = some y) : RE O P H H' y v := by
  cases x with
  | d z => cases h; exact r
  | ob C fs => cases h; exact r
  | own xs => cases h
  | new xs => cases h; exact new_data dom r
  | scr K ns => cases h; exact r
end
def Fn (E : XK) (O P : List Addr) (H₀ H : Hp) (Q : VK) : Except Value DV → Prop
  | .ok x => ∀ v H', Same H H' → RE O P H₀ H' x v → Q v H'
  | .error c => ∀ dx H', Same H H' → E c dx H'
def FnB (E : XK) (H : Hp) (Q : Bool → Hp → Prop) : Except Value Bool → Prop
  | .ok b => ∀ H', Same H H' → Q b H'
  | .error c => ∀ dx H', Same H H' → E c dx H'
def REs (O P : List Addr) (H H' : Hp) : List DV → List V → Prop := Paired (RE O P H H')
def FnA (E : XK) (O P : List Addr) (H₀ H : Hp) (Q : List V → Hp → Prop) : Except Value (List DV) → Prop
  | .ok xs => ∀ vs H', Same H H' → REs O P H₀ H' xs vs → Q vs H'
  | .error c => ∀ dx H', Same H H' → E c dx H'
theorem Fn.on {E : XK} {O P : List Addr} {H₀ H H1 : Hp} {Q : VK} {r : Except Value DV} (h : Fn E O P H₀ H Q r) (s : Same H H1) : Fn E O P H₀ H1 Q r := by
  cases r with
  | ok x => exact fun v H' s' q => h v H' (s.trans s') q
  | error c => exact fun dx H' s' => h dx H' (s.trans s')
theorem FnB.on {E : XK} {H H1 : Hp} {Q : Bool → Hp → Prop} {r : Except Value Bool} (h : FnB E H Q r) (s : Same H H1) : FnB E H1 Q r := by
  cases r with
  | ok x => exact fun H' s' => h H' (s.trans s')
  | error c => exact fun dx H' s' => h dx H' (s.trans s')
theorem FnA.on {E : XK} {O P : List Addr} {H₀ H H1 : Hp} {Q : List V → Hp → Prop} {r : Except Value (List DV)} (h : FnA E O P H₀ H Q r) (s : Same H H1) : FnA E O P H₀ H1 Q r := by
  cases r with
  | ok x => exact fun v H' s' q => h v H' (s.trans s') q
  | error c => exact fun dx H' s' => h dx H' (s.trans s')
def tE (E : XK) (f : DS → M DV) : TE := fun σ H Q => ∃ O P δ r, RS O P H σ δ ∧ f δ = some r ∧ Fn E O P H H Q r
def tBo (E : XK) (f : DS → M Bool) : TT := fun σ H Q => ∃ O P δ r, RS O P H σ δ ∧ f δ = some r ∧ FnB E H Q r
def tAr (E : XK) (f : DS → M (List DV)) : TA := fun σ H Q => ∃ O P δ r, RS O P H σ δ ∧ f δ = some r ∧ FnA E O P H H Q r
def PX (X : Cx) (E : XK) (e : Expr) (f : DS → M DV) : Prop := PE X e (tE E f)
def PB (X : Cx) (E : XK) (e : Expr) (f : DS → M Bool) : Prop := PT X e (tBo E f)
def PAs (X : Cx) (E : XK) (es : List Expr) (f : DS → M (List DV)) : Prop := PA X es (tAr E f)
section
variable {X : Cx} {E : XK}
theorem PE.mono {e : Expr} {t t' : TE} (h : PE X e t) (m : ∀ σ H Q, t' σ H Q → t σ H Q) : PE X e t' := fun pins s σ H Q I q => h pins s σ H Q I (m σ H Q q)
theorem PT.mono {e : Expr} {t t' : TT} (h : PT X e t) (m : ∀ σ H Q, t' σ H Q → t σ H Q) : PT X e t' := fun pins s σ H Q I q => h pins s σ H Q I (m σ H Q q)
theorem PA.mono {es : List Expr} {t t' : TA} (h : PA X es t) (m : ∀ σ H Q, t' σ H Q → t σ H Q) : PA X es t' := fun pos pins s σ H Q I q => h pos pins s σ H Q I (m σ H Q q)
theorem tE_bd {f : DS → M DV} {g : DS → DV → M DV} {σ : St} {H : Hp} {Q t : VK} (h : tE E (fun δ => bd (f δ) (g δ)) σ H Q)
    (k : ∀ O P δ x r v H1, RS O P H σ δ → RS O P H1 σ δ → Same H H1 → RE O P H H1 x v → g δ x = some r → Fn E O P H H1 Q r → t v H1) : tE E f σ H t := by
  obtain ⟨O, P, δ, r, rs, e, q⟩ := h
  rcases bd_cases e with ⟨x, e1, e2⟩ | ⟨c, e1, e2⟩
  · exact ⟨O, P, δ, .ok x, rs, e1, fun v H1 s1 re => k O P δ x r v H1 rs (rs.same s1) s1 re e2 (q.on s1)⟩
  · subst e2
    exact ⟨O, P, δ, .error c, rs, e1, q⟩
theorem tE_bdB {f : DS → M DV} {g : DS → DV → M Bool} {σ : St} {H : Hp} {Q : Bool → Hp → Prop} {t : VK} (h : tBo E (fun δ => bd (f δ) (g δ)) σ H Q)
    (k : ∀ O P δ x r v H1, RS O P H σ δ → RS O P H1 σ δ → Same H H1 → RE O P H H1 x v → g δ x = some r → FnB E H1 Q r → t v H1) : tE E f σ H t := by
  obtain ⟨O, P, δ, r, rs, e, q⟩ := h
  rcases bd_cases e with ⟨x, e1, e2⟩ | ⟨c, e1, e2⟩
  · exact ⟨O, P, δ, .ok x, rs, e1, fun v H1 s1 re => k O P δ x r v H1 rs (rs.same s1) s1 re e2 (q.on s1)⟩
  · subst e2
    exact ⟨O, P, δ, .error c, rs, e1, q⟩
theorem tB_bdB {f : DS → M Bool} {g : DS → Bool → M Bool} {σ : St} {H : Hp} {Q : Bool → Hp → Prop} {t : Bool → Hp → Prop} (h : tBo E (fun δ => bd (f δ) (g δ)) σ H Q)
    (k : ∀ O P δ x r H1, RS O P H σ δ → RS O P H1 σ δ → Same H H1 → g δ x = some r → FnB E H1 Q r → t x H1) : tBo E f σ H t := by
  obtain ⟨O, P, δ, r, rs, e, q⟩ := h
  rcases bd_cases e with ⟨x, e1, e2⟩ | ⟨c, e1, e2⟩
  · exact ⟨O, P, δ, .ok x, rs, e1, fun H1 s1 => k O P δ x r H1 rs (rs.same s1) s1 e2 (q.on s1)⟩
  · subst e2
    exact ⟨O, P, δ, .error c, rs, e1, q⟩
def eVar (i : Nat) (δ : DS) : M DV := op ((δ[i]?).join)
theorem px_var (i : Nat) {x : Str} {pos : Pos} (h : PE X (.Name x pos) (tVar i)) : PX X E (.Name x pos) (eVar i) := PE.mono h fun σ H Q q => by
  obtain ⟨O, P, δ, r, rs, e, q⟩ := q
  unfold eVar at e
  cases ed : δ[i]? with
  | none => rw [ed] at e; cases e
  | some o =>
    cases o with
    | none => rw [ed] at e; cases e
    | some y =>
      rw [ed] at e
      cases e
      obtain ⟨v, e1, e2, e3⟩ := rs.at' i y ed
      exact ⟨v, e1, q v H (Same.refl H) e3⟩
def eC (x : D) (_ : DS) : M DV := rt (.d x)
theorem px_con {e : Expr} {x : D} {v : V} (h : PE X e (tC v)) (hr : ∀ Z H, Rp Z H x v) : PX X E e (eC x) := PE.mono h fun σ H Q q => by
  obtain ⟨O, P, δ, r, rs, e, q⟩ := q
  cases e
  exact q v H (Same.refl H) (hr _ _)
theorem px_int {i : Int} {j pos} : PX X E (.Constant (.int i) j pos) (eC (.int i)) := px_con pe_int fun _ _ => .int i
theorem px_bl {b : Bool} {j pos} : PX X E (.Constant (.bool b) j pos) (eC (.bool b)) := px_con pe_bl fun _ _ => .bool b
theorem px_str {x : Str} {j pos} (hx : PyData.strOk x = true) : PX X E (.Constant (.str x) j pos) (eC (.str x)) := px_con pe_str fun _ _ => .str x hx
theorem px_gint {x : Str} {i : Int} {t : Tok} {pos : Pos} (hg : Gl X x) (hm : X.mg x = some (.int i t)) (hd : (x == ("__debug__" : Str)) = false := by decide) : PX X E (.Name x pos) (eC (.int i)) := px_con (v := .int i) (pe_glob hg hm ⟨t, rfl⟩ hd) fun _ _ => .int i
def OpV (X : Cx) (E : XK) (f : Value → Value → Sem Value) (g : DV → DV → M DV) : Prop :=
  ∀ (pins : List (Addr × Obj)) (s : Shared) (σ : St) (O P : List Addr) (H₀ H : Hp) (x y : DV) (v u : V) (vv uu : Value) (r : Except Value DV) (Q : VK), Inv X pins σ H s → (∀ a, a ∈ P ++ O → ∃ o, H₀ a = some o) → Same H₀ H →
    RE O P H₀ H x v → RE O P H₀ H y u → RelV v vv → RelV u uu → g x y = some r → Fn E O P H₀ H Q r → wpAny (model X.prog X.w) X.A (f vv uu) (EP X pins σ Q) X.xe s
def e2 (g : DV → DV → M DV) (fa fb : DS → M DV) (δ : DS) : M DV := bd (fa δ) fun x => bd (fb δ) fun y => g x y
theorem OpV.rule {f : Value → Value → Sem Value} {g : DV → DV → M DV} {R : R2} (ho : OpR X f R)
    (h : ∀ (O P : List Addr) (H₀ H : Hp) (x y : DV) (v u : V) (r : Except Value DV) (Q : VK), (∀ a, a ∈ P ++ O → ∃ o, H₀ a = some o) → Same H₀ H → RE O P H₀ H x v → RE O P H₀ H y u → g x y = some r → Fn E O P H₀ H Q r → R v u H Q) : OpV X E f g :=
  fun pins s σ O P H₀ H x y v u vv uu r Q I hd hs rx ry ev eu e q => ho pins s σ H v u vv uu Q I ev eu (h O P H₀ H x y v u r Q hd hs rx ry e q)
theorem t2 {g : DV → DV → M DV} {fa fb : DS → M DV} {σ : St} {H : Hp} {Q : VK} (h : tE E (e2 g fa fb) σ H Q) {t : V → V → Hp → Prop}
    (k : ∀ O P x y r v u H1, (∀ a, a ∈ P ++ O → ∃ o, H a = some o) → Same H H1 → RE O P H H1 x v → RE O P H H1 y u → g x y = some r → Fn E O P H H1 Q r → t v u H1) :
    tE E fa σ H fun v H1 => tE E fb σ H1 fun u H2 => t v u H2 := by
  refine tE_bd (g := fun δ x => bd (fb δ) fun y => g x y) h fun O P δ x r v H1 rs rs1 s1 rx e q => ?_
  rcases bd_cases e with ⟨y, e1, e2⟩ | ⟨c, e1, e2⟩
  · refine ⟨O, P, δ, .ok y, rs1, e1, fun u H2 s2 ry => k O P x y r v u H2 rs.dom (s1.trans s2) (rx.on s2) (ry.from s1) e2 (q.on s2)⟩
  · subst e2
    exact ⟨O, P, δ, .error c, rs1, e1, q⟩
theorem px_op {a b : Expr} {o : Operator} {fa fb : DS → M DV} {g : DV → DV → M DV} {pos : Pos} (ho : OpV X E (binaryOp o) g) (ha : PX X E a fa) (hb : PX X E b fb) : PX X E (.BinOp a o b pos) (e2 g fa fb) := by
  intro pins s σ H Q I h
  exact wpAny_BinOp (bin ha hb I (t2 h (t := fun v u H1 => ∃ O P x y r, (∀ a, a ∈ P ++ O → ∃ o, H a = some o) ∧ Same H H1 ∧ RE O P H H1 x v ∧ RE O P H H1 y u ∧ g x y = some r ∧ Fn E O P H H1 Q r) fun O P x y r v u H1 h1 h2 h3 h4 h5 h6 => ⟨O, P, x, y, r, h1, h2, h3, h4, h5, h6⟩)
    fun vv uu s2 v u H2 I2 rv ru ⟨O, P, x, y, r, h1, h2, h3, h4, h5, h6⟩ => ho pins s2 σ O P H H2 x y v u vv uu r Q I2 h1 h2 h3 h4 rv ru h5 h6)
theorem px_cmp {a b : Expr} {o : CmpOp} {fa fb : DS → M DV} {g : DV → DV → M DV} {pos : Pos} (ho : OpV X E (compareOp o) g) (ha : PX X E a fa) (hb : PX X E b fb) (hm : behindInMarks o b = false := by first | exact nomark _ | rfl) : PX X E (.Compare a [o] [b] pos) (e2 g fa fb) := by
  intro pins s σ H Q I h
  exact wpAny_Compare1 (bin ha hb I (t2 h (t := fun v u H1 => ∃ O P x y r, (∀ a, a ∈ P ++ O → ∃ o, H a = some o) ∧ Same H H1 ∧ RE O P H H1 x v ∧ RE O P H H1 y u ∧ g x y = some r ∧ Fn E O P H H1 Q r) fun O P x y r v u H1 h1 h2 h3 h4 h5 h6 => ⟨O, P, x, y, r, h1, h2, h3, h4, h5, h6⟩)
    fun vv uu s2 v u H2 I2 rv ru ⟨O, P, x, y, r, h1, h2, h3, h4, h5, h6⟩ => ho pins s2 σ O P H H2 x y v u vv uu r Q I2 h1 h2 h3 h4 rv ru h5 h6) hm
def gI (C : Int → Int → Bool) (h : Int → Int → D) (x y : DV) : M DV := match x, y with
  | .d (.int i), .d (.int j) => if C i j = true then rt (.d (h i j)) else none
  | _, _ => none
theorem gI_cases {C : Int → Int → Bool} {h : Int → Int → D} {x y : DV} {r : Except Value DV} (e : gI C h x y = some r) : ∃ i j, x = .d (.int i) ∧ y = .d (.int j) ∧ C i j = true ∧ r = .ok (.d (h i j)) := by
  unfold gI at e
  split at e
  · rename_i i j
    split at e
    · cases e; exact ⟨i, j, rfl, rfl, by assumption, rfl⟩
    · cases e
  · cases e
theorem opv_int {f : Value → Value → Sem Value} {C : Int → Int → Bool} {CP : Int → Int → Prop} {h : Int → Int → D} {hv : Int → Int → V} (ho : OpR X f (rI CP hv)) (hC : ∀ i j, C i j = true → CP i j) (hr : ∀ i j Z H, Rp Z H (h i j) (hv i j)) : OpV X E f (gI C h) :=
  OpV.rule ho fun O P H₀ H x y v u r Q hd hs rx ry e q => by
    obtain ⟨i, j, rfl, rfl, hc, rfl⟩ := gI_cases e
    cases rx; cases ry
    exact ⟨i, j, rfl, rfl, hC i j hc, q _ H (Same.refl H) (hr i j _ _)⟩
def yes2 (_ _ : Int) : Bool := true
theorem opv_int0 {f : Value → Value → Sem Value} {h : Int → Int → D} {hv : Int → Int → V} (ho : OpR X f (rI0 hv)) (hr : ∀ i j Z H, Rp Z H (h i j) (hv i j)) : OpV X E f (gI yes2 h) :=
  OpV.rule ho fun O P H₀ H x y v u r Q hd hs rx ry e q => by
    obtain ⟨i, j, rfl, rfl, hc, rfl⟩ := gI_cases e
    cases rx; cases ry
    exact ⟨i, j, rfl, rfl, q _ H (Same.refl H) (hr i j _ _)⟩
def gAdd := gI yes2 fun i j => .int (i + j)
def gSub := gI yes2 fun i j => .int (i - j)
def cMul (i j : Int) : Bool := (decide (-(2 ^ 64) < i) && decide (i < 2 ^ 64)) || (decide (-(2 ^ 64) < j) && decide (j < 2 ^ 64))
def gMul := gI cMul fun i j => .int (i * j)
def cDiv (_ j : Int) : Bool := decide (0 < j) && decide (j < 1073741824)
def gDiv := gI cDiv fun i j => .int (i / j)
def cMod (_ j : Int) : Bool := decide (0 < j)
def gMod := gI cMod fun i j => .int (i % j)
def gLt := gI yes2 fun i j => .bool (decide (i < j))
def gLe := gI yes2 fun i j => .bool (decide (i ≤ j))
def gGt := gI yes2 fun i j => .bool (decide (j < i))
def gGe := gI yes2 fun i j => .bool (decide (j ≤ i))
theorem ov_add : OpV X E (binaryOp .Add) gAdd := opv_int0 op_add fun _ _ _ _ => .int _
theorem ov_sub : OpV X E (binaryOp .Sub) gSub := opv_int0 op_sub fun _ _ _ _ => .int _
theorem ov_mul : OpV X E (binaryOp .Mult) gMul := opv_int op_mul (fun i j h => by simpa [cMul, CMul] using h) fun _ _ _ _ => .int _
theorem ov_div : OpV X E (binaryOp .FloorDiv) gDiv := opv_int op_fdiv (fun i j h => by simpa [cDiv, CDiv] using h) fun _ _ _ _ => .int _
theorem ov_mod : OpV X E (binaryOp .Mod) gMod := opv_int op_mod (fun i j h => by simpa [cMod] using h) fun _ _ _ _ => .int _
theorem ov_lt : OpV X E (compareOp .Lt) gLt := opv_int0 op_lt fun _ _ _ _ => .bool _
theorem ov_le : OpV X E (compareOp .LtE) gLe := opv_int0 op_le fun _ _ _ _ => .bool _
theorem ov_gt : OpV X E (compareOp .Gt) gGt := opv_int0 op_gt fun _ _ _ _ => .bool _
theorem ov_ge : OpV X E (compareOp .GtE) gGe := opv_int0 op_ge fun _ _ _ _ => .bool _
end
end L3
set_option Elab.async false
set_option linter.all false
set_option maxRecDepth 100000
set_option maxHeartbeats 4000000
set_option autoImplicit false
namespace L3
open PySem PySem.Spec L2
open PyProof.Rows hiding St
def asQ : DV → Option D
  | .d x => some x
  | .own xs => some (.list xs)
  | .new xs => some (.list xs)
  | _ => none
@[simp] theorem asQ_d (x : D) : asQ (.d x) = some x := rfl
@[simp] theorem asQ_own (xs : List D) : asQ (.own xs) = some (.list xs) := rfl
@[simp] theorem asQ_new (xs : List D) : asQ (.new xs) = some (.list xs) := rfl
section
variable {X : Cx} {E : XK}
theorem reads_list {pins : List (Addr × Obj)} {σ : St} {H : Hp} {s : Shared} (I : Inv X pins σ H s) {Z : List Addr} {a : Addr} {xs : List D} {vs : List V} (q : H a = some (.lst vs)) (l : RpL Z H xs vs) : ∃ as, Reads s.heap (.ref a) (.list xs) as := by
  obtain ⟨its, rv, ⟨o, n, e, c, _, dd⟩, _⟩ := I.list (SqL.of q)
  obtain ⟨as, ra⟩ := RpL.reads I l rv
  exact ⟨_, .list e c dd (by simpa using ra)⟩
theorem RE.reads {pins : List (Addr × Obj)} {σ : St} {O P : List Addr} {H₀ H : Hp} {s : Shared} {x : DV} {v : V} {u : Value} {d : D} (I : Inv X pins σ H s) (r : RE O P H₀ H x v) (ru : RelV v u) (h : asQ x = some d) : (∃ as, Reads s.heap u d as) ∧ d.canLay0 = true := by
  cases x with
  | d y =>
    cases h
    have r' : Rp (P ++ O) H d v := r
    exact ⟨Rp.reads I r' ru, r'.lay⟩
  | ob C fs => cases h
  | own xs =>
    cases h
    obtain ⟨a, vs, rfl, hP, ha, hl⟩ := r
    cases ru
    exact ⟨reads_list I ha hl, by unfold PyData.canLay0; exact hl.lay⟩
  | new xs =>
    cases h
    obtain ⟨a, vs, rfl, hn, ha, hl⟩ := r
    cases ru
    exact ⟨reads_list I ha hl, by unfold PyData.canLay0; exact hl.lay⟩
  | scr K ns => cases h
def gEq (neg : Bool) (x y : DV) : M DV := match asQ x, asQ y with
  | some a, some b => if a.depth ≤ 60 then rt (.d (.bool (if neg = true then !PyData.eqv a b else PyData.eqv a b))) else none
  | _, _ => none
theorem gEq_cases {neg : Bool} {x y : DV} {r : Except Value DV} (e : gEq neg x y = some r) : ∃ a b, asQ x = some a ∧ asQ y = some b ∧ a.depth ≤ 60 ∧ r = .ok (.d (.bool (if neg = true then !PyData.eqv a b else PyData.eqv a b))) := by
  unfold gEq at e
  split at e
  · rename_i a b h1 h2
    split at e
    · cases e; exact ⟨a, b, h1, h2, by assumption, rfl⟩
    · cases e
  · cases e
theorem ov_eq (hu : X.A.units + 64 < cLine) : OpV X E (compareOp .Eq) (gEq false) := fun pins s σ O P H₀ H x y v u vv uu r Q I hd hs rx ry ev eu e q => by
  obtain ⟨a, b, h1, h2, hdp, rfl⟩ := gEq_cases e
  obtain ⟨⟨as, ra⟩, la⟩ := rx.reads I ev h1
  obtain ⟨⟨bs, rb⟩, lb⟩ := ry.reads I eu h2
  exact SeqAt.compareEq_reads ra rb la lb (by have := Nat.min_le_left a.depth b.depth; omega) ⟨.bl _, H, I, rfl, q _ H (Same.refl H) (.bool _)⟩
theorem ov_ne (hu : X.A.units + 64 < cLine) : OpV X E (compareOp .NotEq) (gEq true) := fun pins s σ O P H₀ H x y v u vv uu r Q I hd hs rx ry ev eu e q => by
  obtain ⟨a, b, h1, h2, hdp, rfl⟩ := gEq_cases e
  obtain ⟨⟨as, ra⟩, la⟩ := rx.reads I ev h1
  obtain ⟨⟨bs, rb⟩, lb⟩ := ry.reads I eu h2
  exact SeqAt.compareNe_reads ra rb la lb (by have := Nat.min_le_left a.depth b.depth; omega) ⟨.bl _, H, I, rfl, q _ H (Same.refl H) (.bool _)⟩
def gIn (neg : Bool) (x y : DV) : M DV := match asQ x, asQ y with
  | some a, some (.list ys) => if a.depth ≤ 60 then rt (.d (.bool (if neg = true then !ys.any (fun z => PyData.eqv z a) else ys.any fun z => PyData.eqv z a))) else none
  | some a, some (.tuple ys) => if a.depth ≤ 60 then rt (.d (.bool (if neg = true then !ys.any (fun z => PyData.eqv z a) else ys.any fun z => PyData.eqv z a))) else none
  | _, _ => none
theorem gIn_cases {neg : Bool} {x y : DV} {r : Except Value DV} (e : gIn neg x y = some r) : ∃ a ys, asQ x = some a ∧ (asQ y = some (.list ys) ∨ asQ y = some (.tuple ys)) ∧ a.depth ≤ 60 ∧ r = .ok (.d (.bool (if neg = true then !ys.any (fun z => PyData.eqv z a) else ys.any fun z => PyData.eqv z a))) := by
  unfold gIn at e
  split at e
  · rename_i a b h1 h2
    split at e
    · cases e; exact ⟨a, _, h1, .inl h2, by assumption, rfl⟩
    · cases e
  · rename_i a b h1 h2
    split at e
    · cases e; exact ⟨a, _, h1, .inr h2, by assumption, rfl⟩
    · cases e
  · cases e
theorem ov_in (hu : X.A.units + 64 < cLine) : OpV X E (compareOp .In) (gIn false) := fun pins s σ O P H₀ H x y v u vv uu r Q I hd hs rx ry ev eu e q => by
  obtain ⟨a, ys, h1, h2, hdp, rfl⟩ := gIn_cases e
  obtain ⟨⟨as, ra⟩, la⟩ := rx.reads I ev h1
  rcases h2 with h2 | h2
  · obtain ⟨⟨bs, rb⟩, lb⟩ := ry.reads I eu h2
    unfold PyData.canLay0 at lb
    exact SeqAt.in_list_reads rb ra lb la (by have := Nat.min_le_right (PyData.depthAll ys) a.depth; omega) ⟨.bl _, H, I, rfl, q _ H (Same.refl H) (.bool _)⟩
  · obtain ⟨⟨bs, rb⟩, lb⟩ := ry.reads I eu h2
    unfold PyData.canLay0 at lb
    exact SeqAt.in_tuple_reads rb ra lb la (by have := Nat.min_le_right (PyData.depthAll ys) a.depth; omega) ⟨.bl _, H, I, rfl, q _ H (Same.refl H) (.bool _)⟩
theorem ov_notin (hu : X.A.units + 64 < cLine) : OpV X E (compareOp .NotIn) (gIn true) := fun pins s σ O P H₀ H x y v u vv uu r Q I hd hs rx ry ev eu e q => by
  obtain ⟨a, ys, h1, h2, hdp, rfl⟩ := gIn_cases e
  obtain ⟨⟨as, ra⟩, la⟩ := rx.reads I ev h1
  rcases h2 with h2 | h2
  · obtain ⟨⟨bs, rb⟩, lb⟩ := ry.reads I eu h2
    unfold PyData.canLay0 at lb
    exact SeqAt.notIn_list_reads rb ra lb la (by have := Nat.min_le_right (PyData.depthAll ys) a.depth; omega) ⟨.bl _, H, I, rfl, q _ H (Same.refl H) (.bool _)⟩
  · obtain ⟨⟨bs, rb⟩, lb⟩ := ry.reads I eu h2
    unfold PyData.canLay0 at lb
    exact SeqAt.notIn_tuple_reads rb ra lb la (by have := Nat.min_le_right (PyData.depthAll ys) a.depth; omega) ⟨.bl _, H, I, rfl, q _ H (Same.refl H) (.bool _)⟩
def gC (st : Bool) (x y : DV) : M DV := match x, y with
  | .d a, .d b => if a.depth ≤ 60 then bd (op (cD st a b)) fun k => rt (.d (.bool k)) else none
  | _, _ => none
theorem ov_cmp (st : Bool) (hu : X.A.units + 64 < cLine) : OpV X E (compareOp (cOp st)) (gC st) := fun pins s σ O P H₀ H x y v u vv uu r Q I hd hs rx ry ev eu e q => by
  unfold gC at e
  split at e
  · rename_i a b
    split at e
    · rename_i hdp
      cases hk : cD st a b with
      | none => rw [hk] at e; cases e
      | some k =>
        rw [hk] at e
        cases e
        obtain ⟨⟨as, ra⟩, la⟩ := rx.reads I ev (d := a) rfl
        obtain ⟨⟨bs, rb⟩, lb⟩ := ry.reads I eu (d := b) rfl
        have h := rcL_reads _ st a b X.A s vv uu as bs k (Nat.lt_succ_self _) ra rb la lb (by omega) hk X.prog X.w X.xe (EP X pins σ Q) ⟨.bl _, H, I, rfl, q _ H (Same.refl H) (.bool _)⟩
        cases st with
        | true => exact h
        | false => exact h
    · cases e
  · cases e
theorem ov_ltD (hu : X.A.units + 64 < cLine) : OpV X E (compareOp .Lt) (gC true) := ov_cmp true hu
theorem ov_leD (hu : X.A.units + 64 < cLine) : OpV X E (compareOp .LtE) (gC false) := ov_cmp false hu
def gCat (x y : DV) : M DV := match asL x, asL y with
  | some xs, some ys => if xs.length + ys.length ≤ 1000000 then rt (.new (xs ++ ys)) else none
  | _, _ => none
theorem line_big {n : Nat} (h : n ≤ 1000000) : n ≤ sizeLine := Nat.le_trans h (by rw [sizeLine_eq]; decide)
theorem fresh_z {O P : List Addr} {H₀ H : Hp} {p : Addr} (hd : ∀ a, a ∈ P ++ O → ∃ o, H₀ a = some o) (hs : Same H₀ H) (hp : H p = none) : p ∉ P ++ O := fun h => by
  obtain ⟨o, e⟩ := hd p h
  rw [hs p o e] at hp; cases hp
theorem same_upd {H : Hp} {p : Addr} {o : HO} (hp : H p = none) : Same H (upd H p o) := fun b u e => by rw [upd_ne (ne_of_none e hp)]; exact e
theorem kp_upd {Z : List Addr} {H : Hp} {p : Addr} {o : HO} (hp : H p = none) : Kp Z H (p :: Z) (upd H p o) := ⟨fun a u _ e => same_upd hp a u e, fun a ha => by
  rcases List.mem_cons.mp ha with e | e
  · subst e; exact .inr hp
  · exact .inl e⟩
theorem RE.made {O P : List Addr} {H₀ H : Hp} {p : Addr} {xs : List D} {vs : List V} (hs : Same H₀ H) (hp : H p = none) (l : RpL (P ++ O) H xs vs) : RE O P H₀ (upd H p (.lst vs)) (.new xs) (.ref p) :=
  ⟨p, vs, rfl, hs.free hp, upd_same, l.kp (kp_upd hp)⟩
theorem madeT {O P : List Addr} {H₀ H : Hp} {p : Addr} {xs : List D} {vs : List V} (hd : ∀ a, a ∈ P ++ O → ∃ o, H₀ a = some o) (hs : Same H₀ H) (hp : H p = none) (l : RpL (P ++ O) H xs vs) : RE O P H₀ (upd H p (.tup vs)) (.d (.tuple xs)) (.ref p) :=
  .tup (fresh_z hd hs hp) upd_same (l.kp (.same (same_upd hp)))
theorem gCat_cases {x y : DV} {r : Except Value DV} (e : gCat x y = some r) : ∃ xs ys, asL x = some xs ∧ asL y = some ys ∧ xs.length + ys.length ≤ 1000000 ∧ r = .ok (.new (xs ++ ys)) := by
  unfold gCat at e
  split at e
  · rename_i xs ys h1 h2
    split at e
    · cases e; exact ⟨xs, ys, h1, h2, by assumption, rfl⟩
    · cases e
  · cases e
theorem ov_cat : OpV X E (binaryOp .Add) gCat := OpV.rule op_cat fun O P H₀ H x y v u r Q hd hs rx ry e q => by
  obtain ⟨xs, ys, h1, h2, hz, rfl⟩ := gCat_cases e
  obtain ⟨a, vs, rfl, ha, la⟩ := rx.list h1
  obtain ⟨b, us, rfl, hb, lb⟩ := ry.list h2
  exact ⟨a, b, vs, us, rfl, rfl, ha, hb, line_big (by rw [← la.length, ← lb.length]; exact hz), fun p hp => q _ _ (same_upd hp) (RE.made hs hp (la.append lb))⟩
def gRep (x y : DV) : M DV := match asL x, y with
  | some xs, .d (.int k) => if xs.length * k.toNat ≤ 1000000 ∧ -(2 ^ 63) ≤ k ∧ k < 2 ^ 63 then rt (.new (List.replicate k.toNat xs).flatten) else none
  | _, _ => none
theorem ov_rep : OpV X E (binaryOp .Mult) gRep := OpV.rule op_rep fun O P H₀ H x y v u r Q hd hs rx ry e q => by
  unfold gRep at e
  split at e
  · rename_i xs k h1
    split at e
    · rename_i hz
      cases e
      obtain ⟨a, vs, rfl, ha, la⟩ := rx.list h1
      cases ry
      exact ⟨a, k, vs, rfl, rfl, ha, hz.2.1, hz.2.2, line_big (by rw [← la.length]; exact hz.1), fun p hp => q _ _ (same_upd hp) (RE.made hs hp (la.rep _))⟩
    · cases e
  · cases e
def gOr (g g' : DV → DV → M DV) (x y : DV) : M DV := match g x y with
  | none => g' x y
  | some r => some r
theorem OpV.or {f : Value → Value → Sem Value} {g g' : DV → DV → M DV} (h : OpV X E f g) (h' : OpV X E f g') : OpV X E f (gOr g g') := fun pins s σ O P H₀ H x y v u vv uu r Q I hd hs rx ry ev eu e q => by
  unfold gOr at e
  cases hg : g x y with
  | none => rw [hg] at e; exact h' pins s σ O P H₀ H x y v u vv uu r Q I hd hs rx ry ev eu e q
  | some r' => rw [hg] at e; cases e; exact h pins s σ O P H₀ H x y v u vv uu r Q I hd hs rx ry ev eu hg q
end
end L3
set_option Elab.async false
set_option linter.all false
set_option maxRecDepth 100000
set_option maxHeartbeats 4000000
set_option autoImplicit false
namespace L3
open PySem PySem.Spec L2
open PyProof.Rows hiding St
theorem bd_assoc {α β γ : Type} (m : M α) (f : α → M β) (g : β → M γ) : bd (bd m f) g = bd m fun a => bd (f a) g := by
  cases m with
  | none => rfl
  | some z => cases z <;> rfl
def tru : DV → M Bool
  | .d (.bool b) => rt b
  | _ => none
@[simp] theorem tru_b (b : Bool) : tru (.d (.bool b)) = rt b := rfl
theorem tru_cases {x : DV} {r : Except Value Bool} (h : tru x = some r) : ∃ b, x = .d (.bool b) ∧ r = .ok b := by
  unfold tru at h
  split at h
  · rename_i b
    cases h; exact ⟨b, rfl, rfl⟩
  · cases h
section
variable {X : Cx} {E : XK} {a b c e : Expr} {pos : Pos} {fa fb fc f : DS → M DV} {ga gb : DS → M Bool}
theorem tru_end {O P : List Addr} {H₀ H : Hp} {x : DV} {v : V} {r : Except Value Bool} {Q : Bool → Hp → Prop} (rx : RE O P H₀ H x v) (h : tru x = some r) (q : FnB E H Q r) : ∃ k, v = .bl k ∧ Q k H := by
  obtain ⟨k, rfl, rfl⟩ := tru_cases h
  cases rx
  exact ⟨k, rfl, q H (Same.refl H)⟩
theorem pb_val (h : PX X E e f) (he : ∀ whole, isTrue e X.env whole = (do let v ← whole; standAt e.pos; holding [v] (truthy v)) := by intro _; rfl) : PB X E e (fun δ => bd (f δ) tru) :=
  PT.mono (pt_val h he) fun σ H Q q => tE_bdB (g := fun _ => tru) q fun O P δ x r v H1 rs rs1 s1 rx e' q' => tru_end rx e' q'
theorem t2B {g : DV → DV → M DV} {σ : St} {H : Hp} {Q : Bool → Hp → Prop} (h : tBo E (fun δ => bd (e2 g fa fb δ) tru) σ H Q) {t : V → V → Hp → Prop}
    (k : ∀ O P x y r v u H1, (∀ a, a ∈ P ++ O → ∃ o, H a = some o) → Same H H1 → RE O P H H1 x v → RE O P H H1 y u → bd (g x y) tru = some r → FnB E H1 Q r → t v u H1) :
    tE E fa σ H fun v H1 => tE E fb σ H1 fun u H2 => t v u H2 := by
  have h' : tBo E (fun δ => bd (fa δ) fun x => bd (bd (fb δ) fun y => g x y) tru) σ H Q := by
    obtain ⟨O, P, δ, r, rs, e, q⟩ := h
    exact ⟨O, P, δ, r, rs, (bd_assoc _ _ _).symm.trans e, q⟩
  refine tE_bdB (g := fun δ x => bd (bd (fb δ) fun y => g x y) tru) h' fun O P δ x r v H1 rs rs1 s1 rx e q => ?_
  rcases bd_cases e with ⟨z, e1, e2⟩ | ⟨c, e1, e2⟩
  · rcases bd_cases e1 with ⟨y, e3, e4⟩ | ⟨c, e3, e4⟩
    · exact ⟨O, P, δ, .ok y, rs1, e3, fun u H2 s2 ry => k O P x y r v u H2 rs.dom (s1.trans s2) (rx.on s2) (ry.from s1) (by rw [e4]; exact e2) (q.on s2)⟩
    · cases e4
  · rcases bd_cases e1 with ⟨y, e3, e4⟩ | ⟨c', e3, e4⟩
    · exact ⟨O, P, δ, .ok y, rs1, e3, fun u H2 s2 ry => k O P x y r v u H2 rs.dom (s1.trans s2) (rx.on s2) (ry.from s1) (by rw [e4]; subst e2; rfl) (q.on s2)⟩
    · cases e4
      subst e2
      exact ⟨O, P, δ, .error c, rs1, e3, q⟩
theorem OpV.test {o : Value → Value → Sem Value} {g : DV → DV → M DV} (ho : OpV X E o g) {pins : List (Addr × Obj)} {s : Shared} {σ : St} {O P : List Addr} {H₀ H : Hp} {x y : DV} {v u : V} {vv uu : Value} {r : Except Value Bool} {Q : Bool → Hp → Prop}
    (I : Inv X pins σ H s) (hd : ∀ a, a ∈ P ++ O → ∃ o, H₀ a = some o) (hs : Same H₀ H) (rx : RE O P H₀ H x v) (ry : RE O P H₀ H y u) (ev : RelV v vv) (eu : RelV u uu) (e : bd (g x y) tru = some r) (q : FnB E H Q r) :
    wpAny (model X.prog X.w) X.A (o vv uu) (EP X pins σ fun z H2 => ∃ k, z = .bl k ∧ Q k H2) X.xe s := by
  rcases bd_cases e with ⟨z, e1, e2⟩ | ⟨c, e1, e2⟩
  · refine ho pins s σ O P H₀ H x y v u vv uu (.ok z) _ I hd hs rx ry ev eu e1 fun w H2 s2 rz => tru_end rz e2 (q.on s2)
  · subst e2
    exact ho pins s σ O P H₀ H x y v u vv uu (.error c) _ I hd hs rx ry ev eu e1 q
theorem pb_cmp {o : CmpOp} {g : DV → DV → M DV} (ho : OpV X E (compareOp o) g) (ha : PX X E a fa) (hb : PX X E b fb) (hm : behindInMarks o b = false := by first | exact nomark _ | rfl) : PB X E (.Compare a [o] [b] pos) (fun δ => bd (e2 g fa fb δ) tru) := by
  intro pins s σ H Q I h
  refine wpAny_isTrue_Compare1 (bin ha hb I (t2B h (t := fun v u H1 => ∃ O P x y r, (∀ a, a ∈ P ++ O → ∃ o, H a = some o) ∧ Same H H1 ∧ RE O P H H1 x v ∧ RE O P H H1 y u ∧ bd (g x y) tru = some r ∧ FnB E H1 Q r) fun O P x y r v u H1 h1 h2 h3 h4 h5 h6 => ⟨O, P, x, y, r, h1, h2, h3, h4, h5, h6⟩)
    fun vv uu s2 v u H2 I2 rv ru ⟨O, P, x, y, r, h1, h2, h3, h4, h5, h6⟩ => thn (ho.test I2 h1 h2 h3 h4 rv ru h5 h6) fun d s3 ⟨z, H3, I3, r3, k, ez, q3⟩ => ?_) hm
  subst ez
  cases r3
  exact wpAny_truthy_bool ⟨H3, I3, q3⟩
def eCh (g g' : DV → DV → M DV) (fa fb fc : DS → M DV) (δ : DS) : M DV := bd (fa δ) fun x => bd (fb δ) fun y => bd (bd (g x y) tru) fun k => if k = true then bd (fc δ) fun z => g' y z else rt (.d (.bool false))
theorem t3 {g g' : DV → DV → M DV} {σ : St} {H : Hp} {Q : VK} (h : tE E (eCh g g' fa fb fc) σ H Q) {t : V → V → Hp → Prop}
    (k : ∀ O P δ x y r v u H1, RS O P H σ δ → RS O P H1 σ δ → Same H H1 → RE O P H H1 x v → RE O P H H1 y u → (bd (bd (g x y) tru) fun k => if k = true then bd (fc δ) fun z => g' y z else rt (.d (.bool false))) = some r → Fn E O P H H1 Q r → t v u H1) :
    tE E fa σ H fun v H1 => tE E fb σ H1 fun u H2 => t v u H2 := by
  refine tE_bd (g := fun δ x => bd (fb δ) fun y => bd (bd (g x y) tru) fun k => if k = true then bd (fc δ) fun z => g' y z else rt (.d (.bool false))) h fun O P δ x r v H1 rs rs1 s1 rx e q => ?_
  rcases bd_cases e with ⟨y, e1, e2⟩ | ⟨c, e1, e2⟩
  · exact ⟨O, P, δ, .ok y, rs1, e1, fun u H2 s2 ry => k O P δ x y r v u H2 rs (rs1.same s2) (s1.trans s2) (rx.on s2) (ry.from s1) e2 (q.on s2)⟩
  · subst e2
    exact ⟨O, P, δ, .error c, rs1, e1, q⟩
theorem px_chain {o o' : CmpOp} {g g' : DV → DV → M DV} (ho : OpV X E (compareOp o) g) (ho' : OpV X E (compareOp o') g') (ha : PX X E a fa) (hb : PX X E b fb) (hc : PX X E c fc)
    (hm : lastMarks [o, o'] [b, c] = false := by with_unfolding_all rfl) : PX X E (.Compare a [o, o'] [b, c] pos) (eCh g g' fa fb fc) := by
  intro pins s σ H Q I h
  refine Compare_chain (thn (ha pins s σ H _ I (t3 h (t := fun v u H1 => ∃ O P δ x y r, RS O P H σ δ ∧ RS O P H1 σ δ ∧ Same H H1 ∧ RE O P H H1 x v ∧ RE O P H H1 y u ∧ (bd (bd (g x y) tru) fun k => if k = true then bd (fc δ) fun z => g' y z else rt (.d (.bool false))) = some r ∧ Fn E O P H H1 Q r)
    fun O P δ x y r v u H1 h1 h2 h3 h4 h5 h6 h7 => ⟨O, P, δ, x, y, r, h1, h2, h3, h4, h5, h6, h7⟩)) fun vv s1 ⟨v, H1, I1, r1, q1⟩ => chain_link (thn (hb pins s1 σ H1 _ I1 q1) fun uu s2 ⟨u, H2, I2, r2, q2⟩ => ?_)) hm
  obtain ⟨O, P, δ, x, y, r, h1, h2, h3, h4, h5, h6, h7⟩ := q2
  rcases bd_cases h6 with ⟨k, e1, e2⟩ | ⟨cx, e1, e2⟩
  · refine thn (ho.test (Q := fun k' H3 => k' = k ∧ Same H2 H3) I2 h1.dom h3 h4 h5 r1 r2 e1 fun H3 s3 => ⟨rfl, s3⟩) fun d s3 ⟨z, H3, I3, r3, k', ez, ek, s3'⟩ => ?_
    subst ez ek
    cases r3
    refine wpAny_truthy_bool ?_
    cases k' with
    | false =>
      cases e2
      exact ite_ff ⟨.bl false, H3, I3, rfl, h7 _ H3 s3' (.bool false)⟩
    | true =>
      simp only [if_true] at e2
      refine ite_tt (chain_last (thn (hc pins s3 σ H3 (fun w' H4 => ∃ zz, RE O P H H4 zz w' ∧ Same H3 H4 ∧ g' y zz = some r) I3 ?_) fun ww s4 ⟨w', H4, I4, r4, zz, q4, s4', e4⟩ => ?_))
      · rcases bd_cases e2 with ⟨zz, e3, e4⟩ | ⟨cc, e3, e4⟩
        · exact ⟨O, P, δ, .ok zz, h2.same s3', e3, fun w' H4 s4 rz => ⟨zz, rz.from (h3.trans s3'), s4, e4⟩⟩
        · subst e4
          exact ⟨O, P, δ, .error cc, h2.same s3', e3, h7.on s3'⟩
      · exact ho' pins s4 σ O P H H4 y zz u w' uu ww r Q I4 h1.dom (h3.trans (s3'.trans s4')) (h5.on (s3'.trans s4')) q4 r2 r4 e4 (h7.on (s3'.trans s4'))
  · subst e2
    exact thn (ho.test (Q := fun _ _ => False) I2 h1.dom h3 h4 h5 r1 r2 e1 h7) fun d s3 ⟨z, H3, I3, r3, k', ez, q3⟩ => q3.elim
theorem pb_chain {o o' : CmpOp} {g g' : DV → DV → M DV} (ho : OpV X E (compareOp o) g) (ho' : OpV X E (compareOp o') g') (ha : PX X E a fa) (hb : PX X E b fb) (hc : PX X E c fc)
    (hm : lastMarks [o, o'] [b, c] = false := by with_unfolding_all rfl) : PB X E (.Compare a [o, o'] [b, c] pos) (fun δ => bd (eCh g g' fa fb fc δ) tru) := by
  intro pins s σ H Q I h
  have h' : tE E (eCh g g' fa fb fc) σ H (fun z H' => ∃ k, z = .bl k ∧ Q k H') := tE_bdB (g := fun _ => tru) h fun O P δ x r v H1 rs rs1 s1 rx e' q' => tru_end rx e' q'
  refine isTrue_chain (thn (ha pins s σ H _ I (t3 h' (t := fun v u H1 => ∃ O P δ x y r, RS O P H σ δ ∧ RS O P H1 σ δ ∧ Same H H1 ∧ RE O P H H1 x v ∧ RE O P H H1 y u ∧ (bd (bd (g x y) tru) fun k => if k = true then bd (fc δ) fun z => g' y z else rt (.d (.bool false))) = some r ∧ Fn E O P H H1 (fun z H' => ∃ k, z = .bl k ∧ Q k H') r)
    fun O P δ x y r v u H1 h1 h2 h3 h4 h5 h6 h7 => ⟨O, P, δ, x, y, r, h1, h2, h3, h4, h5, h6, h7⟩)) fun vv s1 ⟨v, H1, I1, r1, q1⟩ => test_link (thn (hb pins s1 σ H1 _ I1 q1) fun uu s2 ⟨u, H2, I2, r2, q2⟩ => ?_)) hm
  obtain ⟨O, P, δ, x, y, r, h1, h2, h3, h4, h5, h6, h7⟩ := q2
  rcases bd_cases h6 with ⟨k, e1, e2⟩ | ⟨cx, e1, e2⟩
  · refine thn (ho.test (Q := fun k' H3 => k' = k ∧ Same H2 H3) I2 h1.dom h3 h4 h5 r1 r2 e1 fun H3 s3 => ⟨rfl, s3⟩) fun d s3 ⟨z, H3, I3, r3, k', ez, ek, s3'⟩ => ?_
    subst ez ek
    cases r3
    refine wpAny_truthy_bool ?_
    cases k' with
    | false =>
      cases e2
      obtain ⟨k2, ek2, q7⟩ := h7 _ H3 s3' (Rp.bool false)
      cases ek2
      exact ite_ff ⟨H3, I3, q7⟩
    | true =>
      simp only [if_true] at e2
      refine ite_tt (test_last (thn (hc pins s3 σ H3 (fun w' H4 => ∃ zz, RE O P H H4 zz w' ∧ Same H3 H4 ∧ g' y zz = some r) I3 ?_) fun ww s4 ⟨w', H4, I4, r4, zz, q4, s4', e4⟩ => ?_))
      · rcases bd_cases e2 with ⟨zz, e3, e4⟩ | ⟨cc, e3, e4⟩
        · exact ⟨O, P, δ, .ok zz, h2.same s3', e3, fun w' H4 s4 rz => ⟨zz, rz.from (h3.trans s3'), s4, e4⟩⟩
        · subst e4
          exact ⟨O, P, δ, .error cc, h2.same s3', e3, h7.on s3'⟩
      · refine thn (ho' pins s4 σ O P H H4 y zz u w' uu ww r _ I4 h1.dom (h3.trans (s3'.trans s4')) (h5.on (s3'.trans s4')) q4 r2 r4 e4 (h7.on (s3'.trans s4'))) fun d' s5 ⟨z2, H5, I5, r5, k2, ek2, q5⟩ => ?_
        subst ek2
        cases r5
        exact wpAny_truthy_bool ⟨H5, I5, q5⟩
  · subst e2
    exact thn (ho.test (Q := fun _ _ => False) I2 h1.dom h3 h4 h5 r1 r2 e1 h7) fun d s3 ⟨z, H3, I3, r3, k', ez, q3⟩ => q3.elim
def PWb (X : Cx) (E : XK) (e : Expr) (f : DS → M Bool) : Prop := PW X e (tBo E f)
theorem PWb.pb (h : PWb X E e ga) : PB X E e ga := PW.pt h
def bAnd (ga gb : DS → M Bool) (δ : DS) : M Bool := bd (ga δ) fun k => if k = true then gb δ else rt false
def bOr (ga gb : DS → M Bool) (δ : DS) : M Bool := bd (ga δ) fun k => if k = true then rt true else gb δ
def bNot (ga : DS → M Bool) (δ : DS) : M Bool := bd (ga δ) fun k => rt (!k)
theorem PW.mono {t t' : TT} (h : PW X e t) (m : ∀ σ H Q, t' σ H Q → t σ H Q) : PW X e t' := fun wh pins s σ H Q I q => h wh pins s σ H Q I (m σ H Q q)
variable {rest : List Expr}
theorem pb_or1 (h : PB X E a ga) : PWb X E (.BoolOp .Or [a] pos) ga := pw_or1 h
theorem pb_or (ha : PB X E a ga) (hb : PWb X E (.BoolOp .Or (b :: rest) pos) gb) : PWb X E (.BoolOp .Or (a :: b :: rest) pos) (bOr ga gb) :=
  PW.mono (pw_or ha hb) fun σ H Q q => tB_bdB (g := fun δ k => if k = true then rt true else gb δ) q fun O P δ k r H1 rs rs1 s1 e q => by
    cases k with
    | false => exact ⟨O, P, δ, r, rs1, e, q⟩
    | true => cases e; exact q H1 (Same.refl H1)
theorem pb_not (ha : PB X E a ga) : PB X E (.UnaryOp .Not a pos) (bNot ga) :=
  PT.mono (pt_not ha) fun σ H Q q => tB_bdB (g := fun δ k => rt (!k)) q fun O P δ k r H1 rs rs1 s1 e q => by
    cases e; exact q H1 (Same.refl H1)
def eAnd (fa fb : DS → M DV) (δ : DS) : M DV := bd (bd (fa δ) tru) fun k => if k = true then fb δ else rt (.d (.bool false))
def eOr (fa fb : DS → M DV) (δ : DS) : M DV := bd (bd (fa δ) tru) fun k => if k = true then rt (.d (.bool true)) else fb δ
def eNot (fa : DS → M DV) (δ : DS) : M DV := bd (bd (fa δ) tru) fun k => rt (.d (.bool (!k)))
theorem t1 {g : DS → Bool → M DV} {σ : St} {H : Hp} {Q : VK} (h : tE E (fun δ => bd (bd (fa δ) tru) (g δ)) σ H Q) {t : VK}
    (k : ∀ O P δ k r H1, RS O P H1 σ δ → Same H H1 → g δ k = some r → Fn E O P H H1 Q r → t (.bl k) H1) : tE E fa σ H t := by
  obtain ⟨O, P, δ, r, rs, e, q⟩ := h
  rcases bd_cases e with ⟨z, e1, e2⟩ | ⟨c, e1, e2⟩
  · rcases bd_cases e1 with ⟨x, e3, e4⟩ | ⟨c, e3, e4⟩
    · refine ⟨O, P, δ, .ok x, rs, e3, fun v H1 s1 rx => ?_⟩
      obtain ⟨kk, rfl, ek⟩ := tru_cases e4
      cases ek
      cases rx
      exact k O P δ _ r H1 (rs.same s1) s1 e2 (q.on s1)
    · cases e4
  · subst e2
    rcases bd_cases e1 with ⟨x, e3, e4⟩ | ⟨c', e3, e4⟩
    · obtain ⟨kk, _, ek⟩ := tru_cases e4
      cases ek
    · cases e4
      exact ⟨O, P, δ, .error c, rs, e3, q⟩
theorem px_one {o : BoolOp} (h : PX X E a fa) : PX X E (.BoolOp o [a] pos) fa := pe_one h
theorem fn_from {O P : List Addr} {H H1 : Hp} {Q : VK} {r : Except Value DV} (s1 : Same H H1) (q : Fn E O P H H1 Q r) : Fn E O P H1 H1 Q r := by
  cases r with
  | ok x => exact fun v H' s' rx => q v H' s' (rx.from s1)
  | error c => exact q
theorem px_and (ha : PX X E a fa) (hb : PX X E (.BoolOp .And (b :: rest) pos) fb) : PX X E (.BoolOp .And (a :: b :: rest) pos) (eAnd fa fb) :=
  PE.mono (pe_and ha hb) fun σ H Q q => t1 (g := fun δ k => if k = true then fb δ else rt (.d (.bool false))) q fun O P δ k r H1 rs1 s1 e q => by
    refine ⟨k, rfl, ?_⟩
    cases k with
    | true => exact iteT ⟨O, P, δ, r, rs1, e, fn_from s1 q⟩
    | false => cases e; exact iteF (q _ H1 (Same.refl H1) (.bool false))
def eNeg (fa : DS → M DV) (δ : DS) : M DV := bd (fa δ) fun x => match x with
  | .d (.int i) => rt (.d (.int (-i)))
  | _ => none
theorem px_neg (ha : PX X E a fa) : PX X E (.UnaryOp .USub a pos) (eNeg fa) :=
  PE.mono (pe_un un_neg ha) fun σ H Q q => tE_bd (g := fun _ x => match x with | .d (.int i) => rt (.d (.int (-i))) | _ => none) q fun O P δ x r v H1 rs rs1 s1 rx e q => by
    split at e
    · rename_i i
      cases e
      cases rx
      exact ⟨i, rfl, q _ H1 (Same.refl H1) (.int (-i))⟩
    · cases e
end
end L3
set_option Elab.async false
set_option linter.all false
set_option maxRecDepth 100000
set_option maxHeartbeats 4000000
set_option autoImplicit false
namespace L3
open PySem PySem.Spec L2
open PyProof.Rows hiding St
section
variable {X : Cx} {E : XK} {a b c e o : Expr} {es : List Expr} {pos p : Pos} {fa fb fc f : DS → M DV} {fr : DS → M (List DV)}
theorem REs.on {O P : List Addr} {H H1 H2 : Hp} {xs : List DV} {vs : List V} (r : REs O P H H1 xs vs) (h : Same H1 H2) : REs O P H H2 xs vs := Paired.mapP r fun _ _ q => RE.on q h
theorem REs.from {O P : List Addr} {H H1 H2 : Hp} {xs : List DV} {vs : List V} (r : REs O P H1 H2 xs vs) (h : Same H H1) : REs O P H H2 xs vs := Paired.mapP r fun _ _ q => RE.from q h
def aNil (_ : DS) : M (List DV) := rt []
def aCons (fa : DS → M DV) (fr : DS → M (List DV)) (δ : DS) : M (List DV) := bd (fa δ) fun x => bd (fr δ) fun xs => rt (x :: xs)
theorem px_anil : PAs X E [] aNil := PA.mono pa_nil fun σ H Q q => by
  obtain ⟨O, P, δ, r, rs, e, q⟩ := q
  cases e
  exact q [] H (Same.refl H) .nil
theorem px_acons (ha : PX X E e fa) (hr : PAs X E es fr) (hs : starEach (e :: es) X.env = (false, eval e X.env) :: starEach es X.env := by rfl) : PAs X E (e :: es) (aCons fa fr) := PA.mono (pa_cons ha hr hs) fun σ H Q q => by
  obtain ⟨O, P, δ, r, rs, e, q⟩ := q
  rcases bd_cases e with ⟨x, e1, e2⟩ | ⟨c, e1, e2⟩
  · refine ⟨O, P, δ, .ok x, rs, e1, fun v H1 s1 rx => ?_⟩
    rcases bd_cases e2 with ⟨xs, e3, e4⟩ | ⟨c, e3, e4⟩
    · cases e4
      exact ⟨O, P, δ, .ok xs, rs.same s1, e3, fun vs H2 s2 rxs => q _ H2 (s1.trans s2) (.cons (rx.on s2) (rxs.from s1))⟩
    · subst e4
      exact ⟨O, P, δ, .error c, rs.same s1, e3, fun dx H' s' => q dx H' (s1.trans s')⟩
  · subst e2
    exact ⟨O, P, δ, .error c, rs, e1, q⟩
def datas : List DV → Option (List D)
  | [] => some []
  | x :: r => match asD x, datas r with
    | some d, some ds => some (d :: ds)
    | _, _ => none
@[simp] theorem datas_nil : datas [] = some [] := rfl
theorem datas_cons (x : DV) (r : List DV) : datas (x :: r) = match asD x, datas r with | some d, some ds => some (d :: ds) | _, _ => none := rfl
@[simp] theorem datas_d (x : D) (r : List DV) : datas (.d x :: r) = (datas r).map (x :: ·) := by
  rw [datas_cons, asD_d]
  cases datas r <;> rfl
@[simp] theorem datas_new (xs : List D) (r : List DV) : datas (.new xs :: r) = (datas r).map (.list xs :: ·) := by
  rw [datas_cons, asD_new]
  cases datas r <;> rfl
theorem REs.data {O P : List Addr} {H H' : Hp} (dom : ∀ a, a ∈ P ++ O → ∃ o, H a = some o) : ∀ {xs : List DV} {vs : List V} {ds : List D}, REs O P H H' xs vs → datas xs = some ds → RpL (P ++ O) H' ds vs
  | _, _, _, .nil, h => by cases h; exact .nil
  | _, _, _, .cons r t, h => by
    rw [datas_cons] at h
    split at h
    · rename_i d ds h1 h2
      cases h
      exact .cons (r.data dom h1) (REs.data dom t h2)
    · cases h
def eTup (fr : DS → M (List DV)) (δ : DS) : M DV := bd (fr δ) fun xs => bd (op (datas xs)) fun ds => if ds.length ≤ 1000000 then rt (.d (.tuple ds)) else none
def eLst (fr : DS → M (List DV)) (δ : DS) : M DV := bd (fr δ) fun xs => bd (op (datas xs)) fun ds => if ds.length ≤ 1000000 then rt (.new ds) else none
theorem tA_bd {g : DS → List DV → M DV} {σ : St} {H : Hp} {Q : VK} {t : List V → Hp → Prop} (h : tE E (fun δ => bd (fr δ) (g δ)) σ H Q)
    (k : ∀ O P δ xs r vs H1, RS O P H σ δ → RS O P H1 σ δ → Same H H1 → REs O P H H1 xs vs → g δ xs = some r → Fn E O P H H1 Q r → t vs H1) : tAr E fr σ H t := by
  obtain ⟨O, P, δ, r, rs, e, q⟩ := h
  rcases bd_cases e with ⟨x, e1, e2⟩ | ⟨c, e1, e2⟩
  · exact ⟨O, P, δ, .ok x, rs, e1, fun v H1 s1 re => k O P δ x r v H1 rs (rs.same s1) s1 re e2 (q.on s1)⟩
  · subst e2
    exact ⟨O, P, δ, .error c, rs, e1, q⟩
theorem datas_end {xs : List DV} {h : List D → M DV} {r : Except Value DV} (e : bd (op (datas xs)) h = some r) : ∃ ds, datas xs = some ds ∧ h ds = some r := by
  cases hd : datas xs with
  | none => rw [hd] at e; cases e
  | some ds => rw [hd] at e; exact ⟨ds, rfl, e⟩
theorem px_tup {k : Nat} (h : PAs X E es fr) : PX X E (.Tuple es k pos) (eTup fr) := PE.mono (pe_tup h) fun σ H Q q => tA_bd (g := fun _ xs => bd (op (datas xs)) fun ds => if ds.length ≤ 1000000 then rt (.d (.tuple ds)) else none) q fun O P δ xs r vs H1 rs rs1 s1 rx e q => by
  obtain ⟨ds, hd, e⟩ := datas_end e
  split at e
  · rename_i hz
    cases e
    have l := REs.data rs.dom rx hd
    exact ⟨line_big (by rw [← l.length]; exact hz), fun p hp => q _ _ (same_upd hp) (madeT rs.dom s1 hp l)⟩
  · cases e
theorem px_lst (h : PAs X E es fr) : PX X E (.List es pos) (eLst fr) := PE.mono (pe_lst h) fun σ H Q q => tA_bd (g := fun _ xs => bd (op (datas xs)) fun ds => if ds.length ≤ 1000000 then rt (.new ds) else none) q fun O P δ xs r vs H1 rs rs1 s1 rx e q => by
  obtain ⟨ds, hd, e⟩ := datas_end e
  split at e
  · rename_i hz
    cases e
    have l := REs.data rs.dom rx hd
    exact ⟨line_big (by rw [← l.length]; exact hz), fun p hp => q _ _ (same_upd hp) (RE.made s1 hp l)⟩
  · cases e
def gIx (x y : DV) : M DV := match x, y with
  | .d (.tuple xs), .d (.int i) => bd (op (atI xs i)) fun z => rt (.d z)
  | .d (.list xs), .d (.int i) => bd (op (atI xs i)) fun z => rt (.d z)
  | .own xs, .d (.int i) => bd (op (atI xs i)) fun z => rt (.d z)
  | .new xs, .d (.int i) => bd (op (atI xs i)) fun z => rt (.d z)
  | _, _ => none
theorem RpL.atI {Z : List Addr} {H : Hp} {ds : List D} {vs : List V} {i : Int} {d : D} (l : RpL Z H ds vs) (h : L2.atI ds i = some d) : ∃ v, L2.atI vs i = some v ∧ Rp Z H d v := by
  unfold L2.atI at h ⊢
  rw [← l.length]
  cases e : ixN ds.length i with
  | none => rw [e] at h; cases h
  | some j =>
    rw [e] at h
    obtain ⟨v, e1, r⟩ := l.get (i := j) h
    exact ⟨v, e1, r⟩
theorem atI_map {α β : Type} (g : α → β) (xs : List α) (i : Int) : atI (xs.map g) i = (atI xs i).map g := by
  unfold atI
  rw [List.length_map]
  cases ixN xs.length i with
  | none => rfl
  | some j => simp
theorem bd_op {α β : Type} {o : Option α} {g : α → M β} {r : Except Value β} (h : bd (op o) g = some r) : ∃ x, o = some x ∧ g x = some r := by
  cases o with
  | none => cases h
  | some x => exact ⟨x, rfl, h⟩
theorem px_ix (ha : PX X E a fa) (hb : PX X E b fb) (hs : PlainIx b := by intro _ _; rfl) : PX X E (.Subscript a b pos) (e2 gIx fa fb) := PE.mono (pe_ix ix_seq ha hb hs) fun σ H Q q => t2 q fun O P x y r v u H1 dom s1 rx ry e q => by
  unfold gIx at e
  split at e
  · obtain ⟨z, e1, e2⟩ := bd_op e
    cases e2
    cases ry
    have rx' : Rp (P ++ O) H1 _ v := rx
    cases rx' with
    | tup hz ha l =>
      obtain ⟨w, e3, rw3⟩ := l.atI e1
      exact .inr (.inl ⟨_, _, _, w, rfl, rfl, SqT.of ha, e3, q w H1 (Same.refl H1) rw3⟩)
  · obtain ⟨z, e1, e2⟩ := bd_op e
    cases e2
    cases ry
    have rx' : Rp (P ++ O) H1 _ v := rx
    cases rx' with
    | lst hz ha l =>
      obtain ⟨w, e3, rw3⟩ := l.atI e1
      exact .inl ⟨_, _, _, w, rfl, rfl, SqL.of ha, e3, q w H1 (Same.refl H1) rw3⟩
  · obtain ⟨z, e1, e2⟩ := bd_op e
    cases e2
    cases ry
    obtain ⟨a, vs, rfl, hP, ha, l⟩ := rx
    obtain ⟨w, e3, rw3⟩ := l.atI e1
    exact .inl ⟨_, _, _, w, rfl, rfl, SqL.of ha, e3, q w H1 (Same.refl H1) rw3⟩
  · obtain ⟨z, e1, e2⟩ := bd_op e
    cases e2
    cases ry
    obtain ⟨a, vs, rfl, hn, ha, l⟩ := rx
    obtain ⟨w, e3, rw3⟩ := l.atI e1
    exact .inl ⟨_, _, _, w, rfl, rfl, SqL.of ha, e3, q w H1 (Same.refl H1) (rw3.kp (.sub fun b hb => List.mem_cons_of_mem _ hb))⟩
  · cases e
open Classical in
noncomputable def gIxS (K : PySem.W.Frag) (x y : DV) : M DV := match x, y with
  | .scr K' ns, .d (.int i) => if K' = K then bd (op (atI ns i)) fun n => rt (.d (.int n)) else none
  | _, _ => none
theorem RE.scrSq {O P : List Addr} {H₀ H : Hp} {K : PySem.W.Frag} {ns : List Int} {v : V} (r : RE O P H₀ H (.scr K ns) v) : ∃ a, v = .ref a ∧ SqL K H a (ns.map V.int) := by
  obtain ⟨a, ev, hz⟩ := r
  exact ⟨a, ev, hz.imp (fun z => z.2) fun z => z⟩
theorem px_ixS (ha : PX X E a fa) (hb : PX X E b fb) (hs : PlainIx b := by intro _ _; rfl) : PX X E (.Subscript a b pos) (e2 (gIxS X.K) fa fb) := PE.mono (pe_ix ix_seq ha hb hs) fun σ H Q q => t2 q fun O P x y r v u H1 dom s1 rx ry e q => by
  unfold gIxS at e
  split at e
  · split at e
    · rename_i hK
      subst hK
      obtain ⟨z, e1, e2⟩ := bd_op e
      cases e2
      cases ry
      obtain ⟨a, rfl, ha⟩ := rx.scrSq
      exact .inl ⟨_, _, _, .int z, rfl, rfl, ha, by rw [atI_map, e1]; rfl, q _ H1 (Same.refl H1) (.int z)⟩
    · cases e
  · cases e
def asI : DV → M Int
  | .d (.int i) => rt i
  | _ => none
@[simp] theorem asI_d (i : Int) : asI (.d (.int i)) = rt i := rfl
def gFld (C : Addr) (n : Str) (x : DV) : M DV := match x with
  | .ob C' fs => if C' = C then bd (op (fs.lookup n)) fun d => rt (.d d) else none
  | _ => none
def eFld (C : Addr) (n : Str) (fa : DS → M DV) (δ : DS) : M DV := bd (fa δ) (gFld C n)
theorem FsR.look {Z : List Addr} {H : Hp} {n : Str} {d : D} : ∀ {fs : List (Str × D)} {gs : List (Str × V)}, FsR Z H fs gs → fs.lookup n = some d → ∃ v, gs.lookup n = some v ∧ Rp Z H d v
  | _, _, .nil, h => by simp at h
  | (k, x) :: fs, (k', y) :: gs, .cons ⟨ek, r⟩ t, h => by
    have ek' : k = k' := ek
    subst ek'
    by_cases hn : n = k
    · subst hn
      simp only [List.lookup_cons, beq_self_eq_true] at h ⊢
      cases h
      exact ⟨_, rfl, r⟩
    · have hb : (n == k) = false := by simpa using hn
      simp only [List.lookup_cons, hb] at h ⊢
      exact FsR.look t h
theorem px_fld {C : Addr} {n : Str} (ha : PX X E a fa) (hc : Cls X.K C) (hn : NoAttr X.K C n) (hb : attributeBase a n X.env (eval a X.env) = eval a X.env := by rfl) : PX X E (.Attribute a n pos) (eFld C n fa) := PE.mono (pe_fld ha hb) fun σ H Q q =>
  tE_bd (g := fun _ => gFld C n) q fun O P δ x r v H1 rs rs1 s1 rx e q => by
    unfold gFld at e
    split at e
    · split at e
      · rename_i hC
        subst hC
        obtain ⟨d, e1, e2⟩ := bd_op e
        cases e2
        obtain ⟨a, dx, gs, rfl, hz, ha, hf⟩ := rx
        obtain ⟨w, e3, rw3⟩ := FsR.look hf e1
        exact ⟨a, _, dx, gs, w, rfl, ha, hc, hn, e3, q w H1 (Same.refl H1) rw3⟩
      · cases e
    · cases e
def CallV (X : Cx) (E : XK) (f : Value) (g : List DV → M DV) : Prop :=
  ∀ (pins : List (Addr × Obj)) (s : Shared) (σ : St) (O P : List Addr) (H₀ H : Hp) (xs : List DV) (vs : List V) (us : List Value) (r : Except Value DV) (Q : VK), Inv X pins σ H s → (∀ a, a ∈ P ++ O → ∃ o, H₀ a = some o) → Same H₀ H →
    REs O P H₀ H xs vs → Vals vs us → g xs = some r → Fn E O P H₀ H Q r → wpAny (model X.prog X.w) X.A (call f us) (EP X pins σ Q) X.xe s
def rCallV (E : XK) (g : List DV → M DV) (vs : List V) (H : Hp) (Q : VK) : Prop := ∃ O P H₀ xs r, (∀ a, a ∈ P ++ O → ∃ o, H₀ a = some o) ∧ Same H₀ H ∧ REs O P H₀ H xs vs ∧ g xs = some r ∧ Fn E O P H₀ H Q r
theorem CallV.rule {f : Value} {g : List DV → M DV} (h : CallV X E f g) : CallR X f (rCallV E g) := fun pins s σ H vs us Q I rv ⟨O, P, H₀, xs, r, h1, h2, h3, h4, h5⟩ => h pins s σ O P H₀ H xs vs us r Q I h1 h2 h3 rv h4 h5
theorem CallV.of {f : Value} {g : List DV → M DV} {R : List V → Hp → VK → Prop} (hc : CallR X f R)
    (h : ∀ (O P : List Addr) (H₀ H : Hp) (xs : List DV) (vs : List V) (r : Except Value DV) (Q : VK), (∀ a, a ∈ P ++ O → ∃ o, H₀ a = some o) → Same H₀ H → REs O P H₀ H xs vs → g xs = some r → Fn E O P H₀ H Q r → R vs H Q) : CallV X E f g :=
  fun pins s σ O P H₀ H xs vs us r Q I h1 h2 h3 rv h4 h5 => hc pins s σ H vs us Q I rv (h O P H₀ H xs vs r Q h1 h2 h3 h4 h5)
def eCb (g : List DV → M DV) (fr : DS → M (List DV)) (δ : DS) : M DV := bd (fr δ) g
theorem cb_end {g : List DV → M DV} {σ : St} {H : Hp} {Q : VK} (q : tE E (eCb g fr) σ H Q) : tAr E fr σ H fun vs H1 => rCallV E g vs H1 Q :=
  tA_bd (g := fun _ => g) q fun O P δ xs r vs H1 rs rs1 s1 rx e q => ⟨O, P, H, xs, r, rs.dom, s1, rx, e, q⟩
theorem px_callB {x : Str} {id : String} {g : List DV → M DV} (hc : CallV X E (.builtin id) g) (hg : Gl X x) (hm : X.mg x = none) (hv : bootBuiltins x = some (.builtin id)) (ha : PAs X E (e :: es) fr) (hn : x ≠ "__name__" := by decide) (hdb : (x == ("__debug__" : Str)) = false := by decide)
    (he : starEach (e :: es) X.env = (false, eval e X.env) :: starEach es X.env := by rfl) (hpl : (backTo pos (starEach es X.env)).any (·.1) = false := by rfl) : PX X E (.Call (.Name x p) (e :: es) [] pos) (eCb g fr) :=
  PE.mono (pe_callB hc.rule hg hm hv ha hn hdb he hpl) fun σ H Q q => cb_end q
theorem px_callTy {x : Str} {T : String} {g : List DV → M DV} (hc : CallV X E (.type T) g) (hg : Gl X x) (hm : X.mg x = none) (hv : bootBuiltins x = some (.type T)) (ha : PAs X E (e :: es) fr) (hn : x ≠ "__name__" := by decide) (hdb : (x == ("__debug__" : Str)) = false := by decide)
    (he : starEach (e :: es) X.env = (false, eval e X.env) :: starEach es X.env := by rfl) (hpl : (backTo pos (starEach es X.env)).any (·.1) = false := by rfl) : PX X E (.Call (.Name x p) (e :: es) [] pos) (eCb g fr) :=
  PE.mono (pe_callTy hc.rule hg hm hv ha hn hdb he hpl) fun σ H Q q => cb_end q
end
end L3
set_option Elab.async false
set_option linter.all false
set_option maxRecDepth 100000
set_option maxHeartbeats 4000000
set_option autoImplicit false
namespace L3
open PySem PySem.Spec L2
open PyProof.Rows hiding St
def Sub (δ δ' : DS) : Prop := δ.length = δ'.length ∧ ∀ (i : Nat) (x : DV), δ[i]? = some (some x) → δ'[i]? = some (some x)
theorem Sub.refl (δ : DS) : Sub δ δ := ⟨rfl, fun _ _ h => h⟩
theorem Sub.trans {δ δ1 δ2 : DS} (a : Sub δ δ1) (b : Sub δ1 δ2) : Sub δ δ2 := ⟨a.1.trans b.1, fun i x h => b.2 i x (a.2 i x h)⟩
theorem sub_set {δ : DS} {i : Nat} {y : Option DV} (h : δ[i]? = some none ∨ δ[i]? = none) : Sub δ (δ.set i y) := ⟨by simp, fun j x e => by
  by_cases hj : i = j
  · subst hj
    rcases h with h | h <;> (rw [h] at e; cases e)
  · rw [List.getElem?_set_ne hj]; exact e⟩
section
variable {O P : List Addr} {H : Hp} {σ : St} {δ δ' : DS}
theorem RS.forget (r : RS O P H σ δ') (h : Sub δ δ') : RS O P H σ δ :=
  ⟨r.len.trans h.1.symm, r.dom, r.apart, fun i x e => r.at' i x (h.2 i x e), fun i j xs ys v e1 e2 => r.one i j xs ys v (h.2 i _ e1) (h.2 j _ e2)⟩
theorem RS.set (r : RS O P H σ δ) {i : Nat} {x : DV} {v : V} (rx : RE O P H H x v) (h1 : ∀ xs, x ≠ .new xs) (h2 : ∀ xs, x ≠ .own xs) : RS O P H (σ.set i (some v)) (δ.set i (some x)) := by
  refine ⟨by simp [r.len], r.dom, r.apart, fun j y e => ?_, fun j k xs ys w e1 e2 e3 e4 => ?_⟩
  · by_cases hj : i = j
    · subst hj
      by_cases hi : i < δ.length
      · rw [List.getElem?_set_self hi] at e
        cases e
        exact ⟨v, by rw [List.getElem?_set_self (by rw [r.len]; exact hi)], h1, rx⟩
      · rw [List.getElem?_eq_none (by simpa using hi)] at e; cases e
    · rw [List.getElem?_set_ne hj] at e
      obtain ⟨w, e1, e2, e3⟩ := r.at' j y e
      exact ⟨w, by rw [List.getElem?_set_ne hj]; exact e1, e2, e3⟩
  · have nj : ∀ (j : Nat) (xs : List D), (δ.set i (some x))[j]? = some (some (.own xs)) → i ≠ j ∧ δ[j]? = some (some (.own xs)) := fun j xs e => by
      by_cases hj : i = j
      · subst hj
        by_cases hi : i < δ.length
        · rw [List.getElem?_set_self hi] at e
          cases e
          exact absurd rfl (h2 xs)
        · rw [List.getElem?_eq_none (by simpa using hi)] at e; cases e
      · exact ⟨hj, by rw [List.getElem?_set_ne hj] at e; exact e⟩
    obtain ⟨n1, d1⟩ := nj j xs e1
    obtain ⟨n2, d2⟩ := nj k ys e2
    rw [List.getElem?_set_ne n1] at e3
    rw [List.getElem?_set_ne n2] at e4
    exact r.one j k xs ys w d1 d2 e3 e4
theorem RS.own {H0 : Hp} (r : RS O P H0 σ δ) (hs : Same H0 H) {i : Nat} {xs : List D} {v : V} (rx : RE O P H0 H (.new xs) v) : ∃ a, H0 a = none ∧ RS O (a :: P) H (σ.set i (some v)) (δ.set i (some (.own xs))) := by
  obtain ⟨a, vs, rfl, hn, ha, l⟩ := rx
  have fz : a ∉ P ++ O := fun h => by
    obtain ⟨o, e⟩ := r.dom a h
    rw [hn] at e; cases e
  have k : Kp (P ++ O) H0 (a :: P ++ O) H := ⟨fun b o _ e => hs b o e, fun b hb => by
    rcases List.mem_cons.mp hb with e | e
    · exact .inr (e ▸ hn)
    · exact .inl e⟩
  refine ⟨a, hn, by simp [r.len], fun b hb => ?_, fun b hb hO => ?_, fun j y e => ?_, fun j m ys zs w e1 e2 e3 e4 => ?_⟩
  · rcases List.mem_cons.mp hb with e | e
    · exact ⟨_, e ▸ ha⟩
    · obtain ⟨o, q⟩ := r.dom b e
      exact ⟨o, hs b o q⟩
  · rcases List.mem_cons.mp hb with e | e
    · exact fz (List.mem_append_right _ (e ▸ hO))
    · exact r.apart b e hO
  · by_cases hj : i = j
    · subst hj
      by_cases hi : i < δ.length
      · rw [List.getElem?_set_self hi] at e
        cases e
        exact ⟨.ref a, by rw [List.getElem?_set_self (by rw [r.len]; exact hi)], fun _ => nofun, a, vs, rfl, List.mem_cons_self, ha, l⟩
      · rw [List.getElem?_eq_none (by simpa using hi)] at e; cases e
    · rw [List.getElem?_set_ne hj] at e
      obtain ⟨w, e1, e2, e3⟩ := r.at' j y e
      refine ⟨w, by rw [List.getElem?_set_ne hj]; exact e1, e2, ?_⟩
      cases y with
      | d y => exact Rp.kp k e3
      | ob C fs => exact ObR.kp k e3
      | own ys =>
        obtain ⟨b, us, eb, hP, hb, hl⟩ := e3
        exact ⟨b, us, eb, List.mem_cons_of_mem _ hP, hs b _ hb, hl.kp k⟩
      | new ys => exact absurd rfl (e2 ys)
      | scr K ns =>
        obtain ⟨b, eb, ⟨hz, hb⟩ | hk⟩ := e3
        · refine ⟨b, eb, .inl ⟨fun h => ?_, Same.rd hs hb⟩⟩
          rcases List.mem_cons.mp h with z | z
          · rcases hb with hb | ⟨ob, hb⟩ <;> (rw [z, hn] at hb; cases hb)
          · exact hz z
        · exact ⟨b, eb, .inr hk⟩
  ·
    have nold : ∀ (j : Nat) (ys : List D), δ[j]? = some (some (.own ys)) → σ[j]? ≠ some (some (.ref a)) := fun j ys e q => by
      obtain ⟨w, e1, _, b, us, eb, hP, _⟩ := r.at' j _ e
      rw [q] at e1
      cases e1
      cases eb
      exact fz (List.mem_append_left _ hP)
    by_cases hj : i = j
    · by_cases hm : i = m
      · exact hj.symm.trans hm
      · subst hj
        by_cases hi : i < δ.length
        · rw [List.getElem?_set_self (by rw [r.len]; exact hi)] at e3
          cases e3
          rw [List.getElem?_set_ne hm] at e2 e4
          exact absurd e4 (nold m zs e2)
        · rw [List.getElem?_eq_none (by simpa using hi)] at e1; cases e1
    · by_cases hm : i = m
      · subst hm
        by_cases hi : i < δ.length
        · rw [List.getElem?_set_self (by rw [r.len]; exact hi)] at e4
          cases e4
          rw [List.getElem?_set_ne hj] at e1 e3
          exact absurd e3 (nold j ys e1)
        · rw [List.getElem?_eq_none (by simpa using hi)] at e2; cases e2
      · rw [List.getElem?_set_ne hj] at e1 e3
        rw [List.getElem?_set_ne hm] at e2 e4
        exact r.one j m ys zs w e1 e2 e3 e4
end
def TgV (g : TG) (sf : D → DS → Option DS) : Prop := ∀ (O P : List Addr) (H : Hp) (σ : St) (δ δ' : DS) (d : D) (v : V) (Q : St → Hp → Prop), RS O P H σ δ → Rp (P ++ O) H d v → sf d δ = some δ' → (∀ σ', RS O P H σ' δ' → Q σ' H) → g v σ H Q
def sName (i : Nat) (d : D) (δ : DS) : Option DS := some (δ.set i (some (.d d)))
theorem tg_name (i : Nat) : TgV (gName i) (sName i) := fun O P H σ δ δ' d v Q r rd e h => by
  cases e
  exact h _ (r.set (x := .d d) rd (fun _ => nofun) fun _ => nofun)
def sNil (ds : List D) (δ : DS) : Option DS := match ds with
  | [] => some δ
  | _ => none
def sCons (sf : D → DS → Option DS) (st : List D → DS → Option DS) (ds : List D) (δ : DS) : Option DS := match ds with
  | [] => none
  | d :: r => match sf d δ with
    | some δ' => st r δ'
    | none => none
def sTup (n : Nat) (st : List D → DS → Option DS) (d : D) (δ : DS) : Option DS := match d with
  | .tuple ds => if ds.length = n then st ds δ else none
  | _ => none
def TgVs (g : TGs) (sf : List D → DS → Option DS) : Prop := ∀ (O P : List Addr) (H : Hp) (σ : St) (δ δ' : DS) (ds : List D) (vs : List V) (Q : St → Hp → Prop), RS O P H σ δ → RpL (P ++ O) H ds vs → sf ds δ = some δ' → (∀ σ', RS O P H σ' δ' → Q σ' H) → g vs σ H Q
theorem tg_nil : TgVs gNil sNil := fun O P H σ δ δ' ds vs Q r rd e h => by
  cases rd with
  | nil => cases e; exact ⟨rfl, h σ r⟩
  | cons _ _ => cases e
theorem tg_cons {g : TG} {sf : D → DS → Option DS} {gs : TGs} {st : List D → DS → Option DS} (h1 : TgV g sf) (h2 : TgVs gs st) : TgVs (gCons g gs) (sCons sf st) := fun O P H σ δ δ' ds vs Q r rd e h => by
  cases rd with
  | nil => cases e
  | cons r1 rr =>
    unfold sCons at e
    simp only at e
    split at e
    · rename_i δ1 e1
      exact ⟨_, _, rfl, h1 O P H σ δ δ1 _ _ _ r r1 e1 fun σ1 rs1 => h2 O P H σ1 δ1 δ' _ _ Q rs1 rr e h⟩
    · cases e
theorem tg_tup {K : PySem.W.Frag} {n : Nat} {gs : TGs} {st : List D → DS → Option DS} (h : TgVs gs st) : TgV (gTup K n gs) (sTup n st) := fun O P H σ δ δ' d v Q r rd e hq => by
  unfold sTup at e
  split at e
  · split at e
    · rename_i hn
      cases rd with
      | tup hz ha l => exact ⟨_, _, rfl, SqT.of ha, by rw [← l.length]; exact hn, h O P H σ δ δ' _ _ Q r l e hq⟩
    · cases e
  · cases e
def sp0 (n : Nat) (fm : List DV → M DV) : Sp := fun vs H Q _ => vs.length = n ∧ ∃ O xs x, (∀ a, a ∈ O → ∃ o, H a = some o) ∧ REs O [] H H xs vs ∧ fm xs = some (.ok x) ∧ ∀ v H', Same H H' → RE O [] H H' x v → Q v H'
def args : List DV → Option (List DV)
  | [] => some []
  | x :: r => match asA x, args r with
    | some y, some ys => some (y :: ys)
    | _, _ => none
@[simp] theorem args_nil : args [] = some [] := rfl
theorem args_cons (x : DV) (r : List DV) : args (x :: r) = match asA x, args r with | some y, some ys => some (y :: ys) | _, _ => none := rfl
@[simp] theorem args_d (x : D) (r : List DV) : args (.d x :: r) = (args r).map (.d x :: ·) := by
  rw [args_cons, asA_d]; cases args r <;> rfl
@[simp] theorem args_ob (C : Addr) (fs : List (Str × D)) (r : List DV) : args (.ob C fs :: r) = (args r).map (.ob C fs :: ·) := by
  rw [args_cons, asA_ob]; cases args r <;> rfl
@[simp] theorem args_new (xs : List D) (r : List DV) : args (.new xs :: r) = (args r).map (.d (.list xs) :: ·) := by
  rw [args_cons, asA_new]; cases args r <;> rfl
@[simp] theorem args_scr (K : PySem.W.Frag) (ns : List Int) (r : List DV) : args (.scr K ns :: r) = (args r).map (.scr K ns :: ·) := by
  rw [args_cons, asA_scr]; cases args r <;> rfl
theorem RE.hand {O P : List Addr} {H₀ H : Hp} {x y : DV} {v : V} (dom : ∀ a, a ∈ P ++ O → ∃ o, H₀ a = some o) (hs : Same H₀ H) (r : RE O P H₀ H x v) (h : asA x = some y) : RE (P ++ O) [] H H y v := by
  cases x with
  | d z => cases h; exact r
  | ob C fs => cases h; exact r
  | own xs => cases h
  | new xs => cases h; exact new_data dom r
  | scr K ns => cases h; exact r
theorem REs.hand {O P : List Addr} {H₀ H : Hp} (dom : ∀ a, a ∈ P ++ O → ∃ o, H₀ a = some o) (hs : Same H₀ H) : ∀ {xs ys : List DV} {vs : List V}, REs O P H₀ H xs vs → args xs = some ys → REs (P ++ O) [] H H ys vs
  | _, _, _, .nil, h => by cases h; exact .nil
  | _, _, _, .cons r t, h => by
    rw [args_cons] at h
    split at h
    · rename_i y ys h1 h2
      cases h
      exact .cons (r.hand dom hs h1) (REs.hand dom hs t h2)
    · cases h
theorem RE.back {O P : List Addr} {H₀ H H' : Hp} {x : DV} {v : V} (hs : Same H₀ H) (r : RE (P ++ O) [] H H' x v) : RE O P H₀ H' x v := by
  cases x with
  | d z => exact r
  | ob C fs => exact r
  | own xs =>
    obtain ⟨a, vs, e, hP, _⟩ := r
    cases hP
  | new xs =>
    obtain ⟨a, vs, e, hn, ha, l⟩ := r
    exact ⟨a, vs, e, hs.free hn, ha, l⟩
  | scr K ns => exact r
def okO {α : Type} (m : M α) : M α := match m with
  | some (.ok x) => some (.ok x)
  | _ => none
@[simp] theorem okO_ok {α : Type} (x : α) : okO (some (.ok x) : M α) = some (.ok x) := rfl
@[simp] theorem okO_rt {α : Type} (x : α) : okO (rt x) = rt x := rfl
def gCall (n : Nat) (fm : List DV → M DV) (xs : List DV) : M DV := bd (op (args xs)) fun ys => if ys.length = n then okO (fm ys) else none
section
variable {X : Cx} {E : XK} {a b c e o : Expr} {es : List Expr} {pos p : Pos} {fa fb fc f : DS → M DV} {fr : DS → M (List DV)}
theorem px_call {k : Nat} {fn : Addr} {fd : FuncData} {ps : List Str} {x : Str} {n : Nat} {fm : List DV → M DV} (F : FnOk X.prog X.w X.K X.mg X.base CX0 k fn fd ps (sp0 n fm)) (hr : Room k X.A) (hm : X.mg x = some (.ref fn)) (hk : PySem.W.keepIn X.K (.ref fn) = true) (hb : Binds X.K fd ps [])
    (ha : PAs X E (e :: es) fr) (hg : Gl X x := by rfl) (hdb : (x == ("__debug__" : Str)) = false := by decide) (he : starEach (e :: es) X.env = (false, eval e X.env) :: starEach es X.env := by rfl) (hpl : (backTo pos (starEach es X.env)).any (·.1) = false := by rfl) :
    PX X E (.Call (.Name x p) (e :: es) [] pos) (eCb (gCall n fm) fr) :=
  PE.mono (pe_call (E := E0) F hr hg hm hk hb .nil (fun _ _ _ _ _ _ _ h => h.elim) ha hdb he hpl) fun σ H Q q => tA_bd (g := fun _ => gCall n fm) q fun O P δ xs r vs H1 rs rs1 s1 rx e q => by
    obtain ⟨ys, h1, h2⟩ := bd_op e
    split at h2
    · rename_i hl
      cases hf : fm ys with
      | none => rw [hf] at h2; cases h2
      | some z =>
        rw [hf] at h2
        cases z with
        | error c => cases h2
        | ok x =>
          cases h2
          have ry := REs.hand rs.dom s1 rx h1
          refine ⟨?_, P ++ O, ys, x, fun a ha => ?_, ?_, hf, fun v H' s2 rv => q v H' s2 (rv.back s1)⟩
          · rw [List.append_nil, ← Paired.length ry]; exact hl
          · obtain ⟨o, e'⟩ := rs.dom a ha
            exact ⟨o, s1 a o e'⟩
          · rw [List.append_nil]; exact ry
    · cases h2
def gLen (xs : List DV) : M DV := match xs with
  | [x] => match asQ x with
    | some (.list ys) => rt (.d (.int ys.length))
    | some (.tuple ys) => rt (.d (.int ys.length))
    | _ => none
  | _ => none
theorem RE.look {O P : List Addr} {H₀ H : Hp} {x : DV} {v : V} {ys : List D} (r : RE O P H₀ H x v) : (asQ x = some (.list ys) → ∃ a vs, v = .ref a ∧ H a = some (.lst vs) ∧ RpL (P ++ O) H ys vs) ∧ (asQ x = some (.tuple ys) → ∃ a vs, v = .ref a ∧ H a = some (.tup vs) ∧ RpL (P ++ O) H ys vs) := by
  refine ⟨fun h => ?_, fun h => ?_⟩
  · refine r.list ?_
    cases x with
    | d z => cases h; rfl
    | ob C fs => cases h
    | own xs => cases h; rfl
    | new xs => cases h; rfl
    | scr K ns => cases h
  · cases x with
    | d z =>
      cases h
      have r' : Rp (P ++ O) H _ v := r
      cases r' with
      | tup hz ha l => exact ⟨_, _, rfl, ha, l⟩
    | ob C fs => cases h
    | own xs => cases h
    | new xs => cases h
    | scr K ns => cases h
theorem cv_len : CallV X E (.builtin "len") gLen := CallV.of call_len_seq fun O P H₀ H xs vs r Q hd hs rx e q => by
  unfold gLen at e
  split at e
  · cases rx with
    | cons r1 rr =>
      cases rr
      split at e
      · rename_i h
        cases e
        obtain ⟨a, vs, rfl, ha, l⟩ := r1.look.1 h
        exact ⟨a, vs, rfl, .inl (SqL.of ha), q _ H (Same.refl H) (by rw [l.length]; exact .int _)⟩
      · rename_i h
        cases e
        obtain ⟨a, vs, rfl, ha, l⟩ := r1.look.2 h
        exact ⟨a, vs, rfl, .inr (SqT.of ha), q _ H (Same.refl H) (by rw [l.length]; exact .int _)⟩
      · cases e
  · cases e
open Classical in
noncomputable def gLenS (K : PySem.W.Frag) (xs : List DV) : M DV := match xs with
  | [.scr K' ns] => if K' = K then rt (.d (.int ns.length)) else none
  | _ => none
theorem cv_lenS : CallV X E (.builtin "len") (gLenS X.K) := CallV.of call_len_seq fun O P H₀ H xs vs r Q hd hs rx e q => by
  unfold gLenS at e
  split at e
  · split at e
    · rename_i hK
      subst hK
      cases e
      cases rx with
      | cons r1 rr =>
        cases rr
        obtain ⟨a, rfl, ha⟩ := r1.scrSq
        refine ⟨a, _, rfl, .inl ha, ?_⟩
        rw [List.length_map]
        exact q _ H (Same.refl H) (.int _)
    · cases e
  · cases e
def gMin (xs : List DV) : M DV := match xs with
  | [.d (.int i), .d (.int j)] => rt (.d (.int (if j < i then j else i)))
  | _ => none
end
end L3
set_option Elab.async false
set_option linter.all false
set_option maxRecDepth 100000
set_option maxHeartbeats 4000000
set_option autoImplicit false
namespace L3
open PySem PySem.Spec L2
open PyProof.Rows hiding St
inductive Out where
  | nx (δ : DS)
  | rt (x : DV)
  | bk (δ : DS)
  | ct (δ : DS)
def FnS (E : XK) (O P : List Addr) (H : Hp) (T : Ends) : Except Value Out → Prop
  | .ok (.nx δ) => ∀ σ' H' P', Kp P H P' H' → RS O P' H' σ' δ → T.nx σ' H'
  | .ok (.bk δ) => ∀ σ' H' P', Kp P H P' H' → RS O P' H' σ' δ → T.bk σ' H'
  | .ok (.ct δ) => ∀ σ' H' P', Kp P H P' H' → RS O P' H' σ' δ → T.ct σ' H'
  | .ok (.rt x) => ∀ v H1 H' P', Kp P H P' H1 → Same H1 H' → (∀ a, a ∈ P' ++ O → ∃ o, H1 a = some o) → (∀ a, a ∈ P' → a ∉ O) → RE O P' H1 H' x v → T.rt v H'
  | .error c => ∀ dx H' P', Kp P H P' H' → E c dx H'
theorem FnS.on {E : XK} {O P P1 : List Addr} {H H1 : Hp} {T : Ends} {r : Except Value Out} (h : FnS E O P H T r) (k : Kp P H P1 H1) : FnS E O P1 H1 T r := by
  cases r with
  | error c => exact fun dx H' P' k' => h dx H' P' (k.trans k')
  | ok o =>
    cases o with
    | nx δ => exact fun σ' H' P' k' rs => h σ' H' P' (k.trans k') rs
    | bk δ => exact fun σ' H' P' k' rs => h σ' H' P' (k.trans k') rs
    | ct δ => exact fun σ' H' P' k' rs => h σ' H' P' (k.trans k') rs
    | rt x => exact fun v H2 H' P' k' s d ap rx => h v H2 H' P' (k.trans k') s d ap rx
def tS (E : XK) (F : DS → M Out) : TS := fun T σ H => ∃ O P δ r, RS O P H σ δ ∧ F δ = some r ∧ FnS E O P H T r
def PSt (X : Cx) (E : XK) (st : Stmt) (F : DS → M Out) : Prop := PS X st (tS E F)
def PSd (X : Cx) (E : XK) (st : List Stmt) (F : DS → M Out) : Prop := PSs X st (tS E F)
theorem PS.mono {X : Cx} {st : Stmt} {t t' : TS} (h : PS X st t) (m : ∀ T σ H, t' T σ H → t T σ H) : PS X st t' := fun pins s σ H T I q => h pins s σ H T I (m T σ H q)
theorem PSs.mono {X : Cx} {st : List Stmt} {t t' : TS} (h : PSs X st t) (m : ∀ T σ H, t' T σ H → t T σ H) : PSs X st t' := fun pins s σ H T I q => h pins s σ H T I (m T σ H q)
def sqo (F : DS → M Out) (o : Out) : M Out := match o with
  | .nx δ => F δ
  | .rt x => rt (.rt x)
  | .bk δ => rt (.bk δ)
  | .ct δ => rt (.ct δ)
@[simp] theorem sqo_nx (F : DS → M Out) (δ : DS) : sqo F (.nx δ) = F δ := rfl
@[simp] theorem sqo_rt (F : DS → M Out) (x : DV) : sqo F (.rt x) = rt (.rt x) := rfl
@[simp] theorem sqo_bk (F : DS → M Out) (δ : DS) : sqo F (.bk δ) = rt (.bk δ) := rfl
@[simp] theorem sqo_ct (F : DS → M Out) (δ : DS) : sqo F (.ct δ) = rt (.ct δ) := rfl
def fSq (F G : DS → M Out) (δ : DS) : M Out := bd (F δ) (sqo G)
def fNil (δ : DS) : M Out := rt (.nx δ)
section
variable {X : Cx} {E : XK} {st : Stmt} {sts : List Stmt} {F G : DS → M Out} {e c : Expr} {pos : Pos} {f : DS → M DV} {fr : DS → M (List DV)} {gc : DS → M Bool}
theorem ds_nil : PSd X E [] fNil := PSs.mono pss_nil fun T σ H q => by
  obtain ⟨O, P, δ, r, rs, e, q⟩ := q
  cases e
  exact q σ H P (.refl) rs
theorem ds_cons (h1 : PSt X E st F) (h2 : PSd X E sts G) : PSd X E (st :: sts) (fSq F G) := PSs.mono (pss_cons h1 h2) fun T σ H q => by
  obtain ⟨O, P, δ, r, rs, e, q⟩ := q
  rcases bd_cases e with ⟨o, e1, e2⟩ | ⟨c, e1, e2⟩
  · cases o with
    | nx δ1 => exact ⟨O, P, δ, .ok (.nx δ1), rs, e1, fun σ' H' P' k rs' => ⟨O, P', δ1, r, rs', e2, q.on k⟩⟩
    | rt x => cases e2; exact ⟨O, P, δ, .ok (.rt x), rs, e1, q⟩
    | bk δ1 => cases e2; exact ⟨O, P, δ, .ok (.bk δ1), rs, e1, q⟩
    | ct δ1 => cases e2; exact ⟨O, P, δ, .ok (.ct δ1), rs, e1, q⟩
  · subst e2
    exact ⟨O, P, δ, .error c, rs, e1, q⟩
theorem ds_one (h1 : PSt X E st F) : PSd X E [st] F := pss_one h1
def frz (i : Nat) (δ : DS) : DS := match δ[i]? with
  | some (some (.own xs)) => δ.set i (some (.d (.list xs)))
  | _ => δ
theorem RS.frz {O P : List Addr} {H : Hp} {σ : St} {δ : DS} (r : RS O P H σ δ) (i : Nat) : ∃ P', (∀ a, a ∈ P' → a ∈ P) ∧ RS O P' H σ (frz i δ) := by
  unfold L3.frz
  split
  · rename_i xs e
    obtain ⟨v, ev, _, a, vs, rfl, hP, ha, l⟩ := r.at' i _ e
    have hi : i < δ.length := (List.getElem?_eq_some_iff.mp e).1
    have sub : ∀ b, b ∈ P.filter (fun b => !decide (b = a)) → b ∈ P := fun b hb => (List.mem_filter.mp hb).1
    have nota : a ∉ P.filter (fun b => !decide (b = a)) := fun h => by have := (List.mem_filter.mp h).2; simp at this
    have subz : ∀ b, b ∈ P.filter (fun b => !decide (b = a)) ++ O → b ∈ P ++ O := fun b hb => by
      rcases List.mem_append.mp hb with h | h
      · exact List.mem_append_left _ (sub b h)
      · exact List.mem_append_right _ h
    refine ⟨P.filter (fun b => !decide (b = a)), sub, by simp [r.len], fun b hb => r.dom b (subz b hb), fun b hb => r.apart b (sub b hb), fun j y ej => ?_, fun j m ys zs w e1 e2 e3 e4 => ?_⟩
    · by_cases hj : i = j
      · subst hj
        rw [List.getElem?_set_self hi] at ej
        cases ej
        refine ⟨.ref a, ev, fun _ => nofun, Rp.lst (fun h => ?_) ha (l.kp (.sub subz))⟩
        rcases List.mem_append.mp h with h | h
        · exact nota h
        · exact r.apart a hP h
      · rw [List.getElem?_set_ne hj] at ej
        obtain ⟨w, e1, e2, e3⟩ := r.at' j y ej
        refine ⟨w, e1, e2, ?_⟩
        cases y with
        | d y => exact Rp.kp (.sub subz) e3
        | ob C fs => exact ObR.kp (.sub subz) e3
        | own ys =>
          obtain ⟨b, us, eb, hPb, hb, hl⟩ := e3
          refine ⟨b, us, eb, List.mem_filter.mpr ⟨hPb, ?_⟩, hb, hl.kp (.sub subz)⟩
          have : b ≠ a := fun z => hj (r.one i j xs ys (.ref a) e ej ev (by rw [e1, eb, z]))
          simpa using this
        | new ys => exact absurd rfl (e2 ys)
        | scr K ns =>
          obtain ⟨b, eb, hz⟩ := e3
          exact ⟨b, eb, hz.imp (fun z => ⟨fun h => z.1 (subz b h), z.2⟩) fun z => z⟩
    · have nj : ∀ (j : Nat) (ys : List D), (δ.set i (some (.d (.list xs))))[j]? = some (some (.own ys)) → δ[j]? = some (some (.own ys)) := fun j ys ej => by
        by_cases hj : i = j
        · subst hj
          rw [List.getElem?_set_self hi] at ej
          cases ej
        · rw [List.getElem?_set_ne hj] at ej; exact ej
      exact r.one j m ys zs w (nj j ys e1) (nj m zs e2) e3 e4
  · exact ⟨P, fun _ h => h, r⟩
theorem FnS.sub {O P P' : List Addr} {H : Hp} {T : Ends} {r : Except Value Out} (h : FnS E O P H T r) (hs : ∀ a, a ∈ P' → a ∈ P) : FnS E O P' H T r := h.on (.sub hs)
theorem ds_frz (i : Nat) (h : PSd X E sts F) : PSd X E sts (fun δ => F (frz i δ)) := PSs.mono h fun T σ H q => by
  obtain ⟨O, P, δ, r, rs, e, q⟩ := q
  obtain ⟨P', hP, rs'⟩ := rs.frz i
  exact ⟨O, P', frz i δ, r, rs', e, q.sub hP⟩
def fIf (gc : DS → M Bool) (F G : DS → M Out) (δ : DS) : M Out := bd (gc δ) fun k => if k = true then F δ else G δ
theorem st_if {as bs : List Stmt} (hc : PB X E c gc) (ha : PSd X E as F) (hb : PSd X E bs G) : PSt X E (.If c as bs pos) (fIf gc F G) := PS.mono (ps_if hc ha hb) fun T σ H q => by
  obtain ⟨O, P, δ, r, rs, e, q⟩ := q
  rcases bd_cases e with ⟨k, e1, e2⟩ | ⟨cx, e1, e2⟩
  · refine ⟨O, P, δ, .ok k, rs, e1, fun H1 s1 => ?_⟩
    cases k with
    | true => exact iteT ⟨O, P, δ, r, rs.same s1, e2, q.on (.same s1)⟩
    | false => exact iteF ⟨O, P, δ, r, rs.same s1, e2, q.on (.same s1)⟩
  · subst e2
    exact ⟨O, P, δ, .error cx, rs, e1, fun dx H' s => q dx H' P (.same s)⟩
def fRet (f : DS → M DV) (δ : DS) : M Out := bd (f δ) fun x => rt (.rt x)
theorem st_ret (he : PX X E e f) : PSt X E (.Return (some e) pos) (fRet f) := PS.mono (ps_ret he) fun T σ H q => by
  obtain ⟨O, P, δ, r, rs, e, q⟩ := q
  rcases bd_cases e with ⟨x, e1, e2⟩ | ⟨cx, e1, e2⟩
  · cases e2
    exact ⟨O, P, δ, .ok x, rs, e1, fun v H1 s1 rx => q v H H1 P .refl s1 rs.dom rs.apart rx⟩
  · subst e2
    exact ⟨O, P, δ, .error cx, rs, e1, fun dx H' s => q dx H' P (.same s)⟩
def fDrop (f : DS → M DV) (δ : DS) : M Out := bd (f δ) fun _ => rt (.nx δ)
def asgn : DV → Option DV
  | .d x => some (.d x)
  | .ob C fs => some (.ob C fs)
  | .scr K ns => some (.scr K ns)
  | .new xs => some (.own xs)
  | .own _ => none
@[simp] theorem asgn_d (x : D) : asgn (.d x) = some (.d x) := rfl
@[simp] theorem asgn_ob (C : Addr) (fs : List (Str × D)) : asgn (.ob C fs) = some (.ob C fs) := rfl
@[simp] theorem asgn_new (xs : List D) : asgn (.new xs) = some (.own xs) := rfl
@[simp] theorem asgn_scr (K : PySem.W.Frag) (ns : List Int) : asgn (.scr K ns) = some (.scr K ns) := rfl
theorem RS.asg {O P : List Addr} {H H1 : Hp} {σ : St} {δ : DS} {x y : DV} {v : V} (r : RS O P H σ δ) (s1 : Same H H1) (rx : RE O P H H1 x v) (h : asgn x = some y) (i : Nat) :
    ∃ P', Kp P H P' H1 ∧ RS O P' H1 (σ.set i (some v)) (δ.set i (some y)) := by
  cases x with
  | d z => cases h; exact ⟨P, .same s1, (r.same s1).set rx (fun _ => nofun) fun _ => nofun⟩
  | ob C fs => cases h; exact ⟨P, .same s1, (r.same s1).set rx (fun _ => nofun) fun _ => nofun⟩
  | own xs => cases h
  | scr K ns => cases h; exact ⟨P, .same s1, (r.same s1).set rx (fun _ => nofun) fun _ => nofun⟩
  | new xs =>
    cases h
    obtain ⟨a, hn, rs⟩ := r.own s1 rx (i := i)
    refine ⟨a :: P, ⟨fun b o _ e => s1 b o e, fun b hb => ?_⟩, rs⟩
    rcases List.mem_cons.mp hb with z | z
    · exact .inr (z ▸ hn)
    · exact .inl z
def fSet (i : Nat) (f : DS → M DV) (δ : DS) : M Out := bd (f δ) fun x => bd (op (asgn x)) fun y => rt (.nx (δ.set i (some y)))
theorem st_set {i : Nat} {x : Str} {pos' : Pos} (hN : X.N.Nodup) (he : PX X E e f) (hi : X.N[i]? = some x := by rfl) (hx : Loc X.env.scope x := by first | exact Or.inl rfl | exact Or.inr rfl) (hs : swapsWith e (some (.Name x pos')) pos.line X.env = pure false := by rfl)
    (hf : X.fn x = true ∨ X.env.scope.names.lookup x = some .local := by first | exact .inl rfl | exact .inr rfl | assumption) : PSt X E (.Assign [.Name x pos'] e pos) (fSet i f) := PS.mono (ps_set hN hi hx he hs hf) fun T σ H q => by
  obtain ⟨O, P, δ, r, rs, e, q⟩ := q
  rcases bd_cases e with ⟨x, e1, e2⟩ | ⟨cx, e1, e2⟩
  · obtain ⟨y, e3, e4⟩ := bd_op e2
    cases e4
    refine ⟨O, P, δ, .ok x, rs, e1, fun v H1 s1 rx => ?_⟩
    obtain ⟨P', k, rs'⟩ := rs.asg s1 rx e3 i
    exact q _ H1 P' k rs'
  · subst e2
    exact ⟨O, P, δ, .error cx, rs, e1, fun dx H' s => q dx H' P (.same s)⟩
def fTg (sf : D → DS → Option DS) (f : DS → M DV) (δ : DS) : M Out := bd (f δ) fun x => bd (op (asD x)) fun d => bd (op (sf d δ)) fun δ' => rt (.nx δ')
theorem st_asg {tg : Expr} {g : TG} {sf : D → DS → Option DS} (he : PX X E e f) (hg : PG X tg g) (ht : TgV g sf) (hs : swapsWithSole [tg] e pos.line X.env = pure false := by rfl) (hw : swappedStores [tg] e X.env = pure none := by rfl)
    (h1 : (assignEach [tg] X.env).map (·.2) = [assign tg X.env] := by rfl) : PSt X E (.Assign [tg] e pos) (fTg sf f) := PS.mono (ps_asg he hg hs hw h1) fun T σ H q => by
  obtain ⟨O, P, δ, r, rs, e, q⟩ := q
  rcases bd_cases e with ⟨x, e1, e2⟩ | ⟨cx, e1, e2⟩
  · obtain ⟨d, e3, e4⟩ := bd_op e2
    obtain ⟨δ', e5, e6⟩ := bd_op e4
    cases e6
    refine ⟨O, P, δ, .ok x, rs, e1, fun v H1 s1 rx => ?_⟩
    exact ht O P H1 σ δ δ' d v _ (rs.same s1) (rx.data rs.dom e3) e5 fun σ' rs' => q σ' H1 P (.same s1) rs'
  · subst e2
    exact ⟨O, P, δ, .error cx, rs, e1, fun dx H' s => q dx H' P (.same s)⟩
def fPar (i j : Nat) (fr : DS → M (List DV)) (δ : DS) : M Out := bd (fr δ) fun xs => bd (op (datas xs)) fun ds => match ds with
  | [x, y] => rt (.nx ((δ.set i (some (.d x))).set j (some (.d y))))
  | _ => none
theorem st_par' {i j : Nat} {tr : TA} (h : PS X st (tPar i j (tAr E fr))) : PSt X E st (fPar i j fr) := PS.mono h fun T σ H q => by
  obtain ⟨O, P, δ, r, rs, e, q⟩ := q
  rcases bd_cases e with ⟨xs, e1, e2⟩ | ⟨cx, e1, e2⟩
  · obtain ⟨ds, e3, e4⟩ := bd_op e2
    refine ⟨O, P, δ, .ok xs, rs, e1, fun vs H1 s1 rx => ?_⟩
    have l := REs.data rs.dom rx e3
    split at e4
    · cases e4
      cases l with
      | cons r1 l =>
        cases l with
        | cons r2 l =>
          cases l
          refine ⟨_, _, rfl, q _ H1 P (.same s1) ?_⟩
          exact ((rs.same s1).set (x := .d _) r1 (fun _ => nofun) fun _ => nofun).set (x := .d _) r2 (fun _ => nofun) fun _ => nofun
    · cases e4
  · subst e2
    exact ⟨O, P, δ, .error cx, rs, e1, fun dx H' s => q dx H' P (.same s)⟩
def fApp (i : Nat) (f : DS → M DV) (δ : DS) : M Out := match δ[i]? with
  | some (some (.own xs)) => bd (f δ) fun x => bd (op (asD x)) fun d => if xs.length < 1000000 then rt (.nx (δ.set i (some (.own (xs ++ [d]))))) else none
  | _ => none
theorem RS.grow {O P : List Addr} {H : Hp} {σ : St} {δ : DS} {i : Nat} {xs ys : List D} {a : Addr} {us : List V} (r : RS O P H σ δ) (e : δ[i]? = some (some (.own xs))) (ev : σ[i]? = some (some (.ref a))) (l : RpL (P ++ O) H ys us) (hP : a ∈ P) :
    Kp P H P (upd H a (.lst us)) ∧ RS O P (upd H a (.lst us)) σ (δ.set i (some (.own ys))) := by
  have hi : i < δ.length := (List.getElem?_eq_some_iff.mp e).1
  have k : Kp P H P (upd H a (.lst us)) := ⟨fun b o hb q => by rw [upd_ne (show b ≠ a from fun z => hb (by rw [z]; exact hP))]; exact q, fun b hb => .inl hb⟩
  have kz : Kp (P ++ O) H (P ++ O) (upd H a (.lst us)) := ⟨fun b o hb q => by rw [upd_ne (show b ≠ a from fun z => hb (by rw [z]; exact List.mem_append_left _ hP))]; exact q, fun b hb => .inl hb⟩
  refine ⟨k, by simp [r.len], fun b hb => ?_, r.apart, fun j y ej => ?_, fun j m ys' zs w e1 e2 e3 e4 => ?_⟩
  · by_cases hb' : b = a
    · exact ⟨_, by rw [hb', upd_same]⟩
    · rw [upd_ne hb']; exact r.dom b hb
  · by_cases hj : i = j
    · subst hj
      rw [List.getElem?_set_self hi] at ej
      cases ej
      exact ⟨.ref a, ev, fun _ => nofun, a, us, rfl, hP, upd_same, l.kp kz⟩
    · rw [List.getElem?_set_ne hj] at ej
      obtain ⟨w, e1, e2, e3⟩ := r.at' j y ej
      refine ⟨w, e1, e2, ?_⟩
      cases y with
      | d y => exact Rp.kp kz e3
      | ob C fs => exact ObR.kp kz e3
      | own zs =>
        obtain ⟨b, vs, eb, hPb, hb, hl⟩ := e3
        have hne : b ≠ a := fun z => hj (r.one i j xs zs (.ref a) e ej ev (by rw [e1, eb, z]))
        exact ⟨b, vs, eb, hPb, by rw [upd_ne hne]; exact hb, hl.kp kz⟩
      | new zs => exact absurd rfl (e2 zs)
      | scr K ns =>
        obtain ⟨b, eb, ⟨hz, hb⟩ | hk⟩ := e3
        · have hba : b ≠ a := fun z => hz (by rw [z]; exact List.mem_append_left _ hP)
          refine ⟨b, eb, .inl ⟨hz, ?_⟩⟩
          rcases hb with hb | ⟨ob, hb⟩
          · exact .inl (by rw [upd_ne hba]; exact hb)
          · exact .inr ⟨ob, by rw [upd_ne hba]; exact hb⟩
        · exact ⟨b, eb, .inr hk⟩
  · have nj : ∀ (j : Nat) (zs : List D), (δ.set i (some (.own ys)))[j]? = some (some (.own zs)) → ∃ zs', δ[j]? = some (some (.own zs')) := fun j zs ej => by
      by_cases hj : i = j
      · exact ⟨xs, hj ▸ e⟩
      · rw [List.getElem?_set_ne hj] at ej; exact ⟨zs, ej⟩
    obtain ⟨z1, d1⟩ := nj j _ e1
    obtain ⟨z2, d2⟩ := nj m _ e2
    exact r.one j m z1 z2 w d1 d2 e3 e4
theorem st_app {i : Nat} {o : Expr} {apos cpos : Pos} (ho : PE X o (tVar i)) (he : PX X E e f)
    (hbase : attributeBase o "append" X.env (eval o X.env) = eval o X.env := by rfl)
    (hfew : ((backTo cpos (starEach [e] X.env)).all (fun x => !x.1) && (backToKw cpos (keywordEach [] X.env)).all (fun x => x.1.isSome)
      && decide ([e].length + ([] : List Keyword).length + (if ([] : List Keyword).isEmpty then 0 else 1) < 30)) = true := by rfl)
    (hline : (apos.endLine == cpos.line) = true := by rfl) (hs : starEach [e] X.env = (false, eval e X.env) :: starEach [] X.env := by rfl) (hplain : (backTo cpos (starEach [] X.env)).any (·.1) = false := by rfl)
    (hsw : swapsWith (.Call (.Attribute o "append" apos) [e] [] cpos) none pos.line X.env = pure false := by rfl) : PSt X E (.Expr (.Call (.Attribute o "append" apos) [e] [] cpos) pos) (fApp i f) :=
  PS.mono (ps_expr (pe_bm PySem.F.plainAttrs_list PySem.F.slot_list_append PySem.F.type_list_append mt_append ho (pa_cons he pa_nil hs) hbase hfew hline hs hplain) hsw) fun T σ H q => by
    obtain ⟨O, P, δ, r, rs, e, q⟩ := q
    unfold fApp at e
    split at e
    · rename_i xs ei
      obtain ⟨v, ev, _, a, vs, rfl, hP, ha, l⟩ := rs.at' i _ ei
      refine ⟨.ref a, ev, .inl ⟨rfl, _, SqL.of ha⟩, ?_⟩
      rcases bd_cases e with ⟨x, e1, e2⟩ | ⟨cx, e1, e2⟩
      · obtain ⟨d, e3, e4⟩ := bd_op e2
        split at e4
        · rename_i hz
          cases e4
          refine ⟨O, P, δ, .ok x, rs, e1, fun u H1 s1 rx => ?_⟩
          have ru := rx.data rs.dom e3
          have l1 := (l.kp (.same s1)).append (.cons ru .nil)
          obtain ⟨k, rs'⟩ := (rs.same s1).grow ei ev l1 hP
          refine ⟨a, vs, u, rfl, rfl, s1 a _ ha, ?_, q σ _ P ((Kp.same s1).trans k) rs'⟩
          rw [← l.length]
          exact Nat.lt_of_lt_of_le hz (by rw [sizeLine_eq]; decide)
        · cases e4
      · subst e2
        exact ⟨O, P, δ, .error cx, rs, e1, fun dx H' s => q dx H' P (.same s)⟩
    · cases e
end
end L3
set_option Elab.async false
set_option linter.all false
set_option maxRecDepth 100000
set_option maxHeartbeats 4000000
set_option autoImplicit false
namespace L3
open PySem PySem.Spec L2
open PyProof.Rows hiding St
theorem Kp.app {O P P' : List Addr} {H H' : Hp} (k : Kp P H P' H') : Kp (P ++ O) H (P' ++ O) H' := ⟨fun a o ha e => k.keep a o (fun h => ha (List.mem_append_left _ h)) e, fun a ha => by
  rcases List.mem_append.mp ha with h | h
  · rcases k.new a h with z | z
    · exact .inl (List.mem_append_left _ z)
    · exact .inr z
  · exact .inl (List.mem_append_right _ h)⟩
def ItOk (O P : List Addr) (H : Hp) (J : It) (xs : List D) : Prop := ∀ (i : Nat) (P' : List Addr) (H' : Hp), Kp P H P' H' →
  (∀ d, xs[i]? = some d → J.go i H' ∧ ∀ x H2, J.yld i H' x H2 → H2 = H' ∧ Rp (P' ++ O) H' d x) ∧ (xs.length ≤ i → J.stop i H')
theorem ItOk.on {O P P1 : List Addr} {H H1 : Hp} {J : It} {xs : List D} (h : ItOk O P H J xs) (k : Kp P H P1 H1) : ItOk O P1 H1 J xs := fun i P' H' k' => h i P' H' (k.trans k')
def FnI (E : XK) (O P : List Addr) (H : Hp) (R : It → Hp → Prop) : Except Value (List D) → Prop
  | .ok xs => ∀ J H', Same H H' → ItOk O P H' J xs → R J H'
  | .error c => ∀ dx H', Same H H' → E c dx H'
def tI (E : XK) (f : DS → M (List D)) : TI := fun σ H R => ∃ O P δ r, RS O P H σ δ ∧ f δ = some r ∧ FnI E O P H R r
def PIx (X : Cx) (E : XK) (tg iter : Expr) (f : DS → M (List D)) : Prop := PI X tg iter (tI E f)
theorem PI.mono {X : Cx} {tg e : Expr} {t t' : TI} (h : PI X tg e t) (m : ∀ σ H R, t' σ H R → t σ H R) : PI X tg e t' := fun pins s σ H R I q => h pins s σ H R I (m σ H R q)
def iLs (f : DS → M DV) (δ : DS) : M (List D) := bd (f δ) fun x => match asD x with
  | some (.list xs) => rt xs
  | _ => none
def iTp (f : DS → M DV) (δ : DS) : M (List D) := bd (f δ) fun x => match x with
  | .d (.tuple xs) => rt xs
  | _ => none
def runI (lo : Int) (n : Nat) : List D := (List.range n).map fun (k : Nat) => PyData.int (lo + (k : Int))
theorem runI_len (lo : Int) (n : Nat) : (runI lo n).length = n := by simp [runI]
theorem runI_get {lo : Int} {n i : Nat} {d : D} (h : (runI lo n)[i]? = some d) : i < n ∧ d = .int (lo + (i : Int)) := by
  have hi : i < n := by rw [← runI_len lo n]; exact (List.getElem?_eq_some_iff.mp h).1
  refine ⟨hi, ?_⟩
  unfold runI at h
  rw [List.getElem?_map, List.getElem?_range hi] at h
  cases h; rfl
def iR1 (fr : DS → M (List DV)) (δ : DS) : M (List D) := bd (fr δ) fun xs => match xs with
  | [.d (.int j)] => if -(2 ^ 62) ≤ j ∧ j < 2 ^ 62 then rt (runI 0 j.toNat) else none
  | _ => none
def iR2 (fr : DS → M (List DV)) (δ : DS) : M (List D) := bd (fr δ) fun xs => match xs with
  | [.d (.int i), .d (.int j)] => if -(2 ^ 62) ≤ i ∧ i < 2 ^ 62 ∧ -(2 ^ 62) ≤ j ∧ j < 2 ^ 62 then rt (runI i (j - i).toNat) else none
  | _ => none
section
variable {X : Cx} {E : XK} {tg e a b : Expr} {f : DS → M DV} {fr : DS → M (List DV)} {p pos : Pos}
theorem it_range {O P : List Addr} {H : Hp} (lo : Int) (n : Nat) : ItOk O P H (Itr lo n) (runI lo n) := fun i P' H' k => by
  refine ⟨fun d hd => ?_, fun h => ?_⟩
  · obtain ⟨hi, rfl⟩ := runI_get hd
    exact ⟨hi, fun x H2 ⟨e1, e2⟩ => ⟨e1, by rw [e2]; exact .int _⟩⟩
  · rw [runI_len] at h; exact h
theorem it_list {O P : List Addr} {H : Hp} {K : PySem.W.Frag} {xs : List D} {v : V} (r : Rp (P ++ O) H (.list xs) v) : ∃ a, v = .ref a ∧ (∃ vs, SqL K H a vs) ∧ ItOk O P H (Itl K a) xs := by
  cases r with
  | @lst a _ vs hz ha l =>
    refine ⟨a, rfl, ⟨vs, SqL.of ha⟩, fun i P' H' k => ?_⟩
    have ha' := k.keep a _ (fun h => hz (List.mem_append_left _ h)) ha
    have l' := l.kp (Kp.app (O := O) k)
    refine ⟨fun d hd => ?_, fun h => ⟨vs, SqL.of ha', by rw [← l.length]; exact h⟩⟩
    obtain ⟨x, hx, rx⟩ := l'.get hd
    refine ⟨⟨vs, x, SqL.of ha', hx⟩, fun y H2 ⟨e1, e2⟩ => ⟨e1, ?_⟩⟩
    have := e2 vs (SqL.of ha')
    rw [hx] at this
    cases this; exact rx
theorem it_tup {O P : List Addr} {H : Hp} {K : PySem.W.Frag} {xs : List D} {v : V} (r : Rp (P ++ O) H (.tuple xs) v) : ∃ a, v = .ref a ∧ (∃ vs, SqT K H a vs) ∧ ItOk O P H (Itt K a) xs := by
  cases r with
  | @tup a _ vs hz ha l =>
    refine ⟨a, rfl, ⟨vs, SqT.of ha⟩, fun i P' H' k => ?_⟩
    have ha' := k.keep a _ (fun h => hz (List.mem_append_left _ h)) ha
    have l' := l.kp (Kp.app (O := O) k)
    refine ⟨fun d hd => ?_, fun h => ⟨vs, SqT.of ha', by rw [← l.length]; exact h⟩⟩
    obtain ⟨x, hx, rx⟩ := l'.get hd
    refine ⟨⟨vs, x, SqT.of ha', hx⟩, fun y H2 ⟨e1, e2⟩ => ⟨e1, ?_⟩⟩
    have := e2 vs (SqT.of ha')
    rw [hx] at this
    cases this; exact rx
theorem ix_ls (he : PX X E e f) : PIx X E tg e (iLs f) := PI.mono (pi_list he) fun σ H R q => by
  obtain ⟨O, P, δ, r, rs, e, q⟩ := q
  rcases bd_cases e with ⟨x, e1, e2⟩ | ⟨cx, e1, e2⟩
  · refine ⟨O, P, δ, .ok x, rs, e1, fun v H1 s1 rx => ?_⟩
    split at e2
    · rename_i xs h
      cases e2
      obtain ⟨a, rfl, h1, h2⟩ := it_list (K := X.K) (rx.data rs.dom h)
      exact ⟨a, rfl, h1, q _ H1 s1 h2⟩
    · cases e2
  · subst e2
    exact ⟨O, P, δ, .error cx, rs, e1, q⟩
theorem ix_tp (he : PX X E e f) : PIx X E tg e (iTp f) := PI.mono (pi_tup he) fun σ H R q => by
  obtain ⟨O, P, δ, r, rs, e, q⟩ := q
  rcases bd_cases e with ⟨x, e1, e2⟩ | ⟨cx, e1, e2⟩
  · refine ⟨O, P, δ, .ok x, rs, e1, fun v H1 s1 rx => ?_⟩
    split at e2
    · cases e2
      obtain ⟨a, rfl, h1, h2⟩ := it_tup (K := X.K) rx
      exact ⟨a, rfl, h1, q _ H1 s1 h2⟩
    · cases e2
  · subst e2
    exact ⟨O, P, δ, .error cx, rs, e1, q⟩
theorem ix_r1 (hm : X.mg "range" = none) (ha : PAs X E [a] fr) (hg : Gl X "range" := by rfl) (hs : starEach [a] X.env = [(false, eval a X.env)] := by rfl) : PIx X E tg (.Call (.Name "range" p) [a] [] pos) (iR1 fr) := PI.mono (pi_range1 hg hm ha hs) fun σ H R q => by
  obtain ⟨O, P, δ, r, rs, e, q⟩ := q
  rcases bd_cases e with ⟨xs, e1, e2⟩ | ⟨cx, e1, e2⟩
  · refine ⟨O, P, δ, .ok xs, rs, e1, fun vs H1 s1 rx => ?_⟩
    split at e2
    · split at e2
      · rename_i h
        cases e2
        cases rx with
        | cons r1 rr =>
          cases rr
          cases r1
          exact ⟨_, rfl, h.1, h.2, q _ H1 s1 (it_range 0 _)⟩
      · cases e2
    · cases e2
  · subst e2
    exact ⟨O, P, δ, .error cx, rs, e1, q⟩
theorem ix_r2 (hm : X.mg "range" = none) (ha : PAs X E [a, b] fr) (hg : Gl X "range" := by rfl) (hs : starEach [a, b] X.env = [(false, eval a X.env), (false, eval b X.env)] := by rfl) (hs2 : starEach [b] X.env = [(false, eval b X.env)] := by rfl) :
    PIx X E tg (.Call (.Name "range" p) [a, b] [] pos) (iR2 fr) := PI.mono (pi_range2 hg hm ha hs hs2) fun σ H R q => by
  obtain ⟨O, P, δ, r, rs, e, q⟩ := q
  rcases bd_cases e with ⟨xs, e1, e2⟩ | ⟨cx, e1, e2⟩
  · refine ⟨O, P, δ, .ok xs, rs, e1, fun vs H1 s1 rx => ?_⟩
    split at e2
    · split at e2
      · rename_i h
        cases e2
        cases rx with
        | cons r1 rr =>
          cases rr with
          | cons r2 rr =>
            cases rr
            cases r1
            cases r2
            exact ⟨_, _, rfl, h, q _ H1 s1 (it_range _ _)⟩
      · cases e2
    · cases e2
  · subst e2
    exact ⟨O, P, δ, .error cx, rs, e1, q⟩
end
def lpo (G : DS → M Out) (o : Out) : M Out := match o with
  | .nx δ => G δ
  | .ct δ => G δ
  | .bk δ => rt (.nx δ)
  | .rt x => rt (.rt x)
@[simp] theorem lpo_nx (G : DS → M Out) (δ : DS) : lpo G (.nx δ) = G δ := rfl
@[simp] theorem lpo_ct (G : DS → M Out) (δ : DS) : lpo G (.ct δ) = G δ := rfl
@[simp] theorem lpo_bk (G : DS → M Out) (δ : DS) : lpo G (.bk δ) = rt (.nx δ) := rfl
@[simp] theorem lpo_rt (G : DS → M Out) (x : DV) : lpo G (.rt x) = rt (.rt x) := rfl
def loopD (sf : D → DS → Option DS) (B : DS → M Out) : List D → DS → M Out
  | [], δ => rt (.nx δ)
  | d :: r, δ => bd (op (sf d δ)) fun δ1 => bd (B δ1) (lpo (loopD sf B r))
def fFor (fi : DS → M (List D)) (sf : D → DS → Option DS) (B : DS → M Out) (δ : DS) : M Out := bd (fi δ) fun xs => loopD sf B xs δ
section
variable {X : Cx} {E : XK} {tg iter : Expr} {body : List Stmt} {fi : DS → M (List D)} {g : TG} {sf : D → DS → Option DS} {B : DS → M Out} {pos : Pos}
theorem st_for (hp : PassesOwn (model X.prog X.w) X.A X.env X.xe) (hc : X.calm = true) (hi : PIx X E tg iter fi) (hg : PG X tg g) (ht : TgV g sf) (hb : PSd X E body B)
    (hs : ∀ x, foldedSetIterable iter X.env x = pure x := by intro _; rfl) : PSt X E (.For tg iter body [] pos) (fFor fi sf B) := PS.mono (ps_for hp hc hi hg hb hs) fun T σ H q => by
  obtain ⟨O, P, δ, r, rs, e, q⟩ := q
  rcases bd_cases e with ⟨xs, e1, e2⟩ | ⟨cx, e1, e2⟩
  · refine ⟨O, P, δ, .ok xs, rs, e1, fun J H1 s1 it => ?_⟩
    refine ⟨fun i m σ' H' => m = xs.length - i ∧ i ≤ xs.length ∧ ∃ P' δ', Kp P H1 P' H' ∧ RS O P' H' σ' δ' ∧ loopD sf B (xs.drop i) δ' = some r, ⟨xs.length, by simp, Nat.zero_le _, P, δ, .refl, rs.same s1, e2⟩, ?_⟩
    rintro i m σ' H' ⟨rfl, hi, P', δ', k, rs', el⟩
    have q' := q.on ((Kp.same s1).trans k)
    by_cases hlt : i < xs.length
    · obtain ⟨go, yl⟩ := (it i P' H' k).1 xs[i] (by simp [hlt])
      refine .inr ⟨go, fun σ2 H2 => ∃ P2 δ2, Kp P H1 P2 H2 ∧ RS O P2 H2 σ2 δ2 ∧ loopD sf B (xs.drop (i + 1)) δ2 = some r, fun σ2 H2 ⟨P2, δ2, h1, h2, h3⟩ => ⟨xs.length - (i + 1), by omega, rfl, hlt, P2, δ2, h1, h2, h3⟩, fun x H2 hy => ?_⟩
      obtain ⟨rfl, rx⟩ := yl x H2 hy
      rw [List.drop_eq_getElem_cons hlt] at el
      obtain ⟨δ1, e3, e4⟩ := bd_op el
      refine ht O P' H2 σ' δ' δ1 _ x _ rs' rx e3 fun σ1 rs1 => ?_
      rcases bd_cases e4 with ⟨o, e5, e6⟩ | ⟨cx, e5, e6⟩
      · refine ⟨O, P', δ1, .ok o, rs1, e5, ?_⟩
        cases o with
        | nx δ2 => exact fun σ2 H3 P2 k2 rs2 => ⟨P2, δ2, k.trans k2, rs2, e6⟩
        | ct δ2 => exact fun σ2 H3 P2 k2 rs2 => ⟨P2, δ2, k.trans k2, rs2, e6⟩
        | bk δ2 => cases e6; exact q'
        | rt y => cases e6; exact q'
      · subst e6
        exact ⟨O, P', δ1, .error cx, rs1, e5, q'⟩
    · have hin : i = xs.length := by omega
      subst hin
      rw [List.drop_length] at el
      cases el
      exact .inl ⟨(it _ P' H' k).2 (Nat.le_refl _), q' σ' H' P' .refl rs'⟩
  · subst e2
    exact ⟨O, P, δ, .error cx, rs, e1, fun dx H' s => q dx H' P (.same s)⟩
end
def subD (k : Nat) (js : List Nat) (δ : DS) : DS := List.replicate k none ++ js.map fun j => (δ[j]?).join
theorem getJoin {α : Type} {o : Option (Option α)} {x : α} (h : o.join = some x) : o = some (some x) := by
  cases o with
  | none => cases h
  | some z => simp only [Option.join] at h; rw [← h]; rfl
theorem RS.block {O P : List Addr} {H : Hp} {σ : St} {δ : DS} (r : RS O P H σ δ) (k : Nat) (js : List Nat) (hj : js.Nodup) : RS O P H (subSt k js σ) (subD k js δ) := by
  have at0 : ∀ (i : Nat) (x : DV), (subD k js δ)[i]? = some (some x) → k ≤ i ∧ ∃ j, js[i - k]? = some j ∧ δ[j]? = some (some x) := fun i x h => by
    unfold subD at h
    by_cases hi : i < k
    · rw [List.getElem?_append_left (by simpa using hi), List.getElem?_replicate] at h
      split at h <;> cases h
    · rw [List.getElem?_append_right (by simpa using hi), List.length_replicate, List.getElem?_map] at h
      cases e : js[i - k]? with
      | none => rw [e] at h; cases h
      | some j =>
        rw [e] at h
        exact ⟨by omega, j, rfl, getJoin (Option.some.inj h)⟩
  have sg : ∀ (i j : Nat), k ≤ i → js[i - k]? = some j → (subSt k js σ)[i]? = some ((σ[j]?).join) := fun i j hi e => by
    unfold subSt
    rw [List.getElem?_append_right (by simpa using hi), List.length_replicate, List.getElem?_map, e]
    rfl
  refine ⟨by unfold subSt subD; simp, r.dom, r.apart, fun i x h => ?_, fun i j xs ys v h1 h2 h3 h4 => ?_⟩
  · obtain ⟨hi, j, ej, ed⟩ := at0 i x h
    obtain ⟨v, e1, e2, e3⟩ := r.at' j x ed
    exact ⟨v, by rw [sg i j hi ej, e1]; rfl, e2, e3⟩
  · obtain ⟨hi, i', ei, di⟩ := at0 i _ h1
    obtain ⟨hj', j', ej, dj⟩ := at0 j _ h2
    rw [sg i i' hi ei] at h3
    rw [sg j j' hj' ej] at h4
    have := r.one i' j' xs ys v di dj (getJoin (Option.some.inj h3)) (getJoin (Option.some.inj h4))
    subst this
    obtain ⟨l1, g1⟩ := List.getElem?_eq_some_iff.mp ei
    obtain ⟨l2, g2⟩ := List.getElem?_eq_some_iff.mp ej
    have := (List.getElem_inj hj).mp (g1.trans g2.symm)
    omega
def compD (sf : D → DS → Option DS) (gc : DS → M Bool) (fe : DS → M DV) (δ : DS) : List D → Option (List D)
  | [] => some []
  | d :: r => match sf d δ with
    | none => none
    | some δ1 => match gc δ1 with
      | some (.ok false) => compD sf gc fe δ r
      | some (.ok true) => match fe δ1 with
        | some (.ok y) => match asD y, compD sf gc fe δ r with
          | some z, some zs => some (z :: zs)
          | _, _ => none
        | _ => none
      | _ => none
def bYes (_ : DS) : M Bool := rt true
def eComp (k : Nat) (js : List Nat) (fi : DS → M (List D)) (sf : D → DS → Option DS) (gc : DS → M Bool) (fe : DS → M DV) (δ : DS) : M DV := bd (fi δ) fun xs => if xs.length ≤ 1000000 then bd (op (compD sf gc fe (subD k js δ) xs)) fun ys => rt (.new ys) else none
theorem pf_yes {X : Cx} : PF X [] (tBo E0 bYes) := fun pins s σ H Q I q => pf_nil pins s σ H Q I (by
  obtain ⟨O, P, δ, r, rs, e, q⟩ := q
  cases e
  exact q H (Same.refl H))
theorem compD_len {sf : D → DS → Option DS} {gc : DS → M Bool} {fe : DS → M DV} {δ : DS} : ∀ {xs ys : List D}, compD sf gc fe δ xs = some ys → ys.length ≤ xs.length
  | [], ys, h => by cases h; simp
  | d :: r, ys, h => by
    unfold compD at h
    split at h
    · cases h
    · split at h
      · have := compD_len (xs := r) h
        simp; omega
      · split at h
        · split at h
          · rename_i z zs e1 e2
            cases h
            have := compD_len (xs := r) e2
            simp; omega
          · cases h
        · cases h
      · cases h
section
variable {X : Cx} {E : XK} {k : Nat} {js : List Nat} {N' : List Str} {scope : Scope} {elt tg iter : Expr} {ifs : List Expr} {pos : Pos} {fi : DS → M (List D)} {g : TG} {sf : D → DS → Option DS} {gc : DS → M Bool} {fe : DS → M DV}
theorem comp_read (hj : js.Nodup) (ht : TgV g sf) (hsub : ∀ δ d δ1, sf d (subD k js δ) = some δ1 → Sub (subD k js δ) δ1) {σ : St} {H : Hp} {Q : VK} (q : tE E (eComp k js fi sf gc fe) σ H Q) : tComp (tI E fi) k js g (tBo E0 gc) (tE E0 fe) σ H Q := by
  obtain ⟨O, P, δ, r, rs, e, q⟩ := q
  rcases bd_cases e with ⟨xs, e1, e2⟩ | ⟨cx, e1, e2⟩
  · refine ⟨O, P, δ, .ok xs, rs, e1, fun J H1 s1 it => ?_⟩
    split at e2
    · rename_i hz
      obtain ⟨ys, e3, e4⟩ := bd_op e2
      cases e4
      have hlen := compD_len e3
      refine ⟨fun i m σ' H' vs => m = xs.length - i ∧ i ≤ xs.length ∧ Same H1 H' ∧ RS O P H' σ' (subD k js δ) ∧ ∃ ds es, RpL (P ++ O) H' ds vs ∧ compD sf gc fe (subD k js δ) (xs.drop i) = some es ∧ ys = ds ++ es,
        ⟨xs.length, by simp, Nat.zero_le _, Same.refl H1, (rs.same s1).block k js hj, [], ys, .nil, e3, rfl⟩, ?_⟩
      rintro i m σ' H' vs ⟨rfl, hi, sH, rs', ds, es, l, ec, ey⟩
      have hvl : vs.length ≤ ys.length := by rw [ey, ← l.length]; simp
      by_cases hlt : i < xs.length
      · refine .inr ?_
        rw [List.drop_eq_getElem_cons hlt] at ec
        unfold compD at ec
        obtain ⟨go, yl⟩ := (it i P H' (.same sH)).1 xs[i] (by simp [hlt])
        split at ec
        · cases ec
        · rename_i δ1 e5
          refine ⟨go, Nat.lt_of_le_of_lt (Nat.le_trans hvl (Nat.le_trans hlen hz)) (by rw [sizeLine_eq]; decide), fun x H2 hy => ?_⟩
          obtain ⟨rfl, rx⟩ := yl x H2 hy
          refine ht O P H2 σ' _ δ1 _ x _ rs' rx e5 fun σ1 rs1 => ?_
          have hsb := hsub δ _ δ1 e5
          split at ec
          · rename_i e6
            refine ⟨O, P, δ1, .ok false, rs1, e6, fun H3 s3 => ?_⟩
            exact iteF ⟨xs.length - (i + 1), by omega, rfl, hlt, sH.trans s3, (rs1.same s3).forget hsb, ds, es, l.kp (.same s3), ec, ey⟩
          · rename_i e6
            refine ⟨O, P, δ1, .ok true, rs1, e6, fun H3 s3 => ?_⟩
            refine iteT ?_
            split at ec
            · rename_i y e7
              split at ec
              · rename_i z zs e8 e9
                cases ec
                refine ⟨O, P, δ1, .ok y, rs1.same s3, e7, fun v H4 s4 ry => ?_⟩
                refine ⟨xs.length - (i + 1), by omega, rfl, hlt, sH.trans (s3.trans s4), (rs1.same (s3.trans s4)).forget hsb, ds ++ [z], zs, (l.kp (.same (s3.trans s4))).append (.cons (ry.data (rs1.same s3).dom e8) .nil), e9, ?_⟩
                rw [ey, List.append_assoc]; rfl
              · cases ec
            · cases ec
          · cases ec
      · have hin : i = xs.length := by omega
        subst hin
        rw [List.drop_length] at ec
        cases ec
        refine .inl ⟨(it _ P H' (.same sH)).2 (Nat.le_refl _), Nat.le_trans hvl (line_big (Nat.le_trans hlen hz)), fun p hp => ?_⟩
        rw [ey, List.append_nil] at q
        exact q _ _ ((s1.trans sH).trans (same_upd hp)) (RE.made (s1.trans sH) hp l)
    · cases e2
  · subst e2
    exact ⟨O, P, δ, .error cx, rs, e1, q⟩
theorem px_comp (S : CompFit X k js N' scope) (hj : js.Nodup) (hc : X.calm = true) (hi : PIx X E tg iter fi) (ht : TgV g sf) (hsub : ∀ δ d δ1, sf d (subD k js δ) = some δ1 → Sub (subD k js δ) δ1)
    (hg : ∀ C s₂ H₂ fp, PG (compCx X N' scope C s₂ H₂ fp) tg g) (hf : ∀ C s₂ H₂ fp, PF (compCx X N' scope C s₂ H₂ fp) ifs (tBo E0 gc)) (he : ∀ C s₂ H₂ fp, PX (compCx X N' scope C s₂ H₂ fp) E0 elt fe)
    (hs : ∀ x, foldedSetIterable iter X.env x = pure x := by intro _; rfl) : PX X E (.ListComp elt [⟨tg, iter, ifs, 0⟩] scope pos) (eComp k js fi sf gc fe) :=
  PE.mono (pe_comp S hc hi hg hf he hs) fun σ H Q q => comp_read hj ht hsub q
end
end L3
set_option Elab.async false
set_option linter.all false
set_option maxRecDepth 100000
set_option maxHeartbeats 4000000
set_option autoImplicit false
namespace L3
open PySem PySem.Spec L2
open PyProof.Rows hiding St
def dst (N : List Str) (xs : List DV) : DS := xs.map some ++ List.replicate (N.length - xs.length) none
def res : DV → DV
  | .own xs => .new xs
  | x => x
@[simp] theorem res_d (x : D) : res (.d x) = .d x := rfl
@[simp] theorem res_own (xs : List D) : res (.own xs) = .new xs := rfl
@[simp] theorem res_new (xs : List D) : res (.new xs) = .new xs := rfl
@[simp] theorem res_ob (C : Addr) (fs : List (Str × D)) : res (.ob C fs) = .ob C fs := rfl
def outR : Out → M DV
  | .rt x => rt (res x)
  | .nx _ => rt (.d .none)
  | _ => none
@[simp] theorem outR_rt (x : DV) : outR (.rt x) = rt (res x) := rfl
@[simp] theorem outR_nx (δ : DS) : outR (.nx δ) = rt (.d .none) := rfl
def mir (N : List Str) (F : DS → M Out) (xs : List DV) : M DV := bd (F (dst N xs)) outR
theorem RS.start {N : List Str} {O : List Addr} {H : Hp} {xs : List DV} {vs : List V} (dom : ∀ a, a ∈ O → ∃ o, H a = some o) (r : REs O [] H H xs vs) : RS O [] H (L2.start N vs) (dst N xs) := by
  have hl : xs.length = vs.length := Paired.length r
  have at0 : ∀ (i : Nat) (x : DV), (dst N xs)[i]? = some (some x) → xs[i]? = some x := fun i x h => by
    unfold dst at h
    by_cases hi : i < xs.length
    · rw [List.getElem?_append_left (by simpa using hi), List.getElem?_map] at h
      cases e : xs[i]? with
      | none => rw [e] at h; cases h
      | some y => rw [e] at h; cases h; rfl
    · rw [List.getElem?_append_right (by simpa using hi), List.getElem?_replicate] at h
      split at h <;> cases h
  have gets : ∀ {xs : List DV} {vs : List V}, REs O [] H H xs vs → ∀ (i : Nat) (x : DV), xs[i]? = some x → ∃ v, vs[i]? = some v ∧ RE O [] H H x v := by
    intro xs vs r
    induction r with
    | nil => intro i x h; simp at h
    | cons r1 _ ih =>
      intro i x h
      cases i with
      | zero => simp at h; subst h; exact ⟨_, rfl, r1⟩
      | succ i => simpa using ih i x (by simpa using h)
  have sv : ∀ (i : Nat) (v : V), vs[i]? = some v → (L2.start N vs)[i]? = some (some v) := fun i v h => by
    have hi : i < vs.length := (List.getElem?_eq_some_iff.mp h).1
    unfold L2.start
    rw [List.getElem?_append_left (by simpa using hi), List.getElem?_map, h]; rfl
  refine ⟨by unfold L2.start dst; simp [hl], fun a ha => dom a ha, fun a ha => (by cases ha), fun i x h => ?_, fun i j ys zs v h1 h2 h3 h4 => ?_⟩
  · obtain ⟨v, e1, e2⟩ := gets r i x (at0 i x h)
    refine ⟨v, sv i v e1, fun ys hx => ?_, e2⟩
    subst hx
    obtain ⟨a, us, _, hn, ha, _⟩ := e2
    rw [hn] at ha; cases ha
  · obtain ⟨v', _, a, us, _, hP, _⟩ := gets r i _ (at0 i _ h1)
    cases hP
theorem RE.out {O P' : List Addr} {H H1 H' : Hp} {x : DV} {v : V} (k : Kp [] H P' H1) (s : Same H1 H') (r : RE O P' H1 H' x v) : Same H H' ∧ RE O [] H H' (res x) v := by
  have sH : Same H H' := fun b o e => s b o (k.keep b o (by simp) e)
  have sub : ∀ a, a ∈ ([] : List Addr) ++ O → a ∈ P' ++ O := fun a ha => List.mem_append_right _ ha
  refine ⟨sH, ?_⟩
  cases x with
  | d x => exact Rp.kp (.sub sub) r
  | ob C fs => exact ObR.kp (.sub sub) r
  | own xs =>
    obtain ⟨a, vs, e, hP, ha, l⟩ := r
    refine ⟨a, vs, e, ?_, ha, l.kp (.sub fun b hb => ?_)⟩
    · rcases k.new a hP with z | z
      · cases z
      · exact z
    · rcases List.mem_cons.mp hb with z | z
      · exact List.mem_append_left _ (z ▸ hP)
      · exact sub b z
  | new xs =>
    obtain ⟨a, vs, e, hn, ha, l⟩ := r
    refine ⟨a, vs, e, ?_, ha, l.kp (.sub fun b hb => ?_)⟩
    · cases q : H a with
      | none => rfl
      | some o => rw [k.keep a o (by simp) q] at hn; cases hn
    · rcases List.mem_cons.mp hb with z | z
      · exact z ▸ List.mem_cons_self
      · exact List.mem_cons_of_mem _ (sub b z)
  | scr K ns =>
    obtain ⟨a, e, hz⟩ := r
    exact ⟨a, e, hz.imp (fun z => ⟨fun h => z.1 (sub a h), z.2⟩) fun z => z⟩
section
variable {P : Program} {w : World} {K : PySem.W.Frag} {mg : Str → Option Value} {base : Heap}
theorem fn0 {x qual : Str} {st : Stmt} {f : Addr} {fd : FuncData} {N ps : List Str} {k n : Nat} {F : DS → M Out} (Fu : Fun K x qual st f fd) (S : FnScope N ps (defScope st)) (hn : ps.length = n)
    (body : ∀ (cdv : Value) (A : Around) (outer : List Env) (s : Shared) (H : Hp) (E : XK), Room k (A.deeper (envOfC qual (defScope st) s.heap.objs.size f cdv)) →
      PSd (cxOf CX0 P w K mg base N qual (defScope st) f cdv A outer s H E).nox E0 (defBody st) F) : FnOk P w K mg base CX0 (k + 1) f fd ps (sp0 n (mir N F)) := by
  refine Fu.ok S (fun vs H Q E h => h.1.trans hn.symm) fun cdv A outer s H vs Q E hr hsp => ⟨_, body cdv A outer s H E hr, ?_⟩
  obtain ⟨_, O, xs, x, dom, rx, e, q⟩ := hsp
  rcases bd_cases e with ⟨o, e1, e2⟩ | ⟨c, _, e2⟩
  · refine ⟨O, [], dst N xs, .ok o, RS.start dom rx, e1, ?_⟩
    cases o with
    | rt y =>
      cases e2
      intro v H1 H' P' k' s' _ _ ry
      obtain ⟨sH, ry'⟩ := ry.out k' s'
      exact q v H' sH ry'
    | nx δ =>
      cases e2
      intro σ' H' P' k' _
      exact q .non H' (fun b o e => k'.keep b o (by simp) e) .none
    | bk δ => cases e2
    | ct δ => cases e2
  · cases e2
end
section
variable {X : Cx} {E : XK} {o e : Expr} {fo fe : DS → M DV}
def bools : List D → Option (List Bool)
  | [] => some []
  | .bool b :: r => (bools r).map (b :: ·)
  | _ :: _ => none
theorem bools_get : ∀ {xs : List D} {bs : List Bool}, bools xs = some bs → xs = bs.map PyData.bool
  | [], bs, h => by cases h; rfl
  | x :: r, bs, h => by
    cases x with
    | bool b =>
      unfold bools at h
      cases e : bools r with
      | none => rw [e] at h; cases h
      | some cs => rw [e] at h; cases h; rw [bools_get e]; rfl
    | _ => cases h
theorem bools_map (bs : List Bool) : bools (bs.map PyData.bool) = some bs := by
  induction bs with
  | nil => rfl
  | cons b r ih => rw [List.map_cons, bools, ih]; rfl
def gAll (xs : List DV) : M DV := match xs with
  | [x] => bd (op (asL x)) fun ys => bd (op (bools ys)) fun bs => rt (.d (.bool (bs.all id)))
  | _ => none
theorem vals_bools {Z : List Addr} {H : Hp} : ∀ {bs : List Bool} {vs : List V} {us : List Value}, RpL Z H (bs.map PyData.bool) vs → Vals vs us → us = bs.map Value.bool
  | [], _, _, .nil, .nil => rfl
  | b :: r, _, _, .cons p l, .cons q t => by
    cases p
    cases q
    rw [List.map_cons, vals_bools l t]
theorem all_range (bs : List Bool) : ((List.range bs.length).all fun i => (bs[i]?).getD true) = bs.all id := by
  induction bs with
  | nil => rfl
  | cons b r ih =>
    rw [List.length_cons, List.range_succ_eq_map, List.all_cons, List.all_map, List.all_cons]
    have : (r.all id) = ((List.range r.length).all fun i => (r[i]?).getD true) := ih.symm
    rw [this]
    congr 1
theorem cv_all (hc : X.calm = true) : CallV X E (.builtin "all") gAll := fun pins s σ O P H₀ H xs vs us r Q I hd hs rx rv e q => by
  unfold gAll at e
  split at e
  · obtain ⟨ys, e1, e2⟩ := bd_op e
    obtain ⟨bs, e3, e4⟩ := bd_op e2
    cases e4
    cases rx with
    | cons r1 rr =>
      cases rr
      obtain ⟨a, ws, rfl, ha, l⟩ := r1.list e1
      cases rv with
      | cons q1 q2 =>
        cases q2
        cases q1
        have hys := bools_get e3
        subst hys
        obtain ⟨its, ri, pl, hz⟩ := I.list (SqL.of ha)
        have hits := vals_bools l ri
        have hlt : a < s.heap.objs.size := by obtain ⟨_, e', _⟩ := pl.isList; exact Heap.lt_size e'
        have hlist := pl.isList
        refine call_all_walk (wpAny_pyIter_list hlist ?_)
        refine ⟨s.heap.objs.size, [s.heap.objs.size, a], [s.heap.objs.size], its.toArray.size, _, _, fun i => (bs[i]?).getD true, rfl, Walks.list (A := X.A.in1) (I.ok.hd hc) _ a (Nat.ne_of_lt hlt) its.toArray,
          ⟨⟨_, Heap.get?_push_size _ rfl, rfl, rfl⟩, hlist.push _⟩, fun i v s' Q' E' hP hQ => ?_, fun h' tk hk => ?_⟩
        · have hv : (bs[i]?).map Value.bool = some v := by
            have hP' : its.toArray[i]? = some v := hP
            rw [← hP', hits]; simp
          cases eb : bs[i]? with
          | none => rw [eb] at hv; cases hv
          | some b =>
            rw [eb] at hv
            cases hv
            simp only [eb, Option.getD_some] at hQ
            exact wpAny_truthy_bool hQ
        · have hn : its.toArray.size = bs.length := by rw [hits]; simp
          rw [hn, all_range]
          refine ⟨.bl _, H, I.kept (t' := tk) fun b ob eb => hk b ob (fun hm => ?_) (Heap.get?_push_of_some _ eb), rfl, q _ H (Same.refl H) (.bool _)⟩
          rw [List.mem_singleton.mp hm] at eb
          exact Nat.lt_irrefl _ (Heap.lt_size eb)
  · cases e
def gCnt (x y : DV) : M DV := match asL x, asQ y with
  | some xs, some d => if d.depth ≤ 60 then rt (.d (.int (xs.countP fun z => PyData.eqv z d))) else none
  | _, _ => none
def eCnt (fo fe : DS → M DV) (δ : DS) : M DV := bd (fo δ) fun x => bd (op (asL x)) fun _ => bd (fe δ) fun y => gCnt x y
end
end L3
set_option Elab.async false
set_option linter.all false
set_option maxRecDepth 100000
set_option maxHeartbeats 4000000
set_option autoImplicit false
namespace L3
open PySem PySem.Spec L2
open PyProof.Rows hiding St
open PySem.W (KasT kas_asc kas_desc kas_tail3 kas_descPart kas_count kas_place kas_bin kas_sort kas_rev)
abbrev ll := HT.lexLt
theorem ll_irr : ∀ a : List Int, ll a a = false
  | [] => rfl
  | x :: r => by
    show HT.lexLt (x :: r) (x :: r) = false
    rw [HT.lexLt_cons, if_pos rfl]
    exact ll_irr r
theorem ll_tri : ∀ {a b : List Int}, ll a b = false → ll b a = false → a = b
  | [], [], _, _ => rfl
  | [], _ :: _, h, _ => by cases h
  | _ :: _, [], _, h => by cases h
  | x :: xs, y :: ys, h1, h2 => by
    have e1 : HT.lexLt (x :: xs) (y :: ys) = false := h1
    have e2 : HT.lexLt (y :: ys) (x :: xs) = false := h2
    rw [HT.lexLt_cons] at e1 e2
    by_cases h : x = y
    · subst h
      rw [if_pos rfl] at e1 e2
      rw [ll_tri e1 e2]
    · rw [if_neg h] at e1
      rw [if_neg (Ne.symm h)] at e2
      have := of_decide_eq_false e1
      have := of_decide_eq_false e2
      omega
theorem ll_trans : ∀ {a b c : List Int}, ll a b = true → ll b c = true → ll a c = true
  | [], [], _, h, _ => by cases h
  | [], _ :: _, [], _, h => by cases h
  | [], _ :: _, _ :: _, _, _ => rfl
  | _ :: _, [], _, h, _ => by cases h
  | _ :: _, _ :: _, [], _, h => by cases h
  | x :: xs, y :: ys, z :: zs, h1, h2 => by
    have e1 : HT.lexLt (x :: xs) (y :: ys) = true := h1
    have e2 : HT.lexLt (y :: ys) (z :: zs) = true := h2
    show HT.lexLt (x :: xs) (z :: zs) = true
    rw [HT.lexLt_cons] at e1 e2 ⊢
    by_cases h : x = y
    · subst h
      rw [if_pos rfl] at e1
      by_cases h' : x = z
      · subst h'
        rw [if_pos rfl] at e2 ⊢
        exact ll_trans e1 e2
      · rw [if_neg h'] at e2 ⊢
        exact e2
    · rw [if_neg h] at e1
      have l1 := of_decide_eq_true e1
      by_cases h' : y = z
      · subst h'
        rw [if_neg h]; exact e1
      · rw [if_neg h'] at e2
        have l2 := of_decide_eq_true e2
        rw [if_neg (by omega)]
        exact decide_eq_true (by omega)
theorem ll_asym {a b : List Int} (h : ll a b = true) : ll b a = false := by
  cases e : ll b a with
  | false => rfl
  | true =>
    have := ll_trans h e
    rw [ll_irr] at this; cases this
theorem nl_trans {a b c : List Int} (h1 : ll b a = false) (h2 : ll c b = false) : ll c a = false := by
  cases e : ll c a with
  | false => rfl
  | true =>
    cases e2 : ll a b with
    | true => rw [ll_trans e e2] at h2; cases h2
    | false =>
      have := ll_tri e2 h1
      subst this
      rw [e] at h2; cases h2
theorem ll_of_le {a b c : List Int} (h1 : ll a b = true) (h2 : ll c b = false) : ll a c = true := by
  cases e2 : ll b c with
  | true => exact ll_trans h1 e2
  | false =>
    have := ll_tri e2 h2
    subst this; exact h1
def krun {α : Type} (c : Nat → Nat → Bool) : KasT α → α
  | .ret a => a
  | .ask i j k => krun c (k (c i j))
theorem krun_bind {α β : Type} {c : Nat → Nat → Bool} {f : α → KasT β} : ∀ t : KasT α, krun c (t.bind f) = krun c (f (krun c t))
  | .ret a => rfl
  | .ask i j k => krun_bind (k (c i j))
section
variable (key : Nat → List Int)
def cK (i j : Nat) : Bool := ll (key i) (key j)
def Bk (p : Array Nat) (k : Nat) : List Int := key (p.getD k 0)
def Up (p : Array Nat) (m : Nat) : Prop := ∀ i j, i ≤ j → j < m → ll (Bk key p j) (Bk key p i) = false
def Dn (p : Array Nat) (m : Nat) : Prop := ∀ i j, i ≤ j → j < m → ll (Bk key p i) (Bk key p j) = false
variable {key}
theorem Up.step {p : Array Nat} {n : Nat} (h1 : 1 ≤ n) (h : Up key p n) (e : ll (Bk key p n) (Bk key p (n - 1)) = false) : Up key p (n + 1) := fun i j hij hj => by
  by_cases hjn : j = n
  · subst hjn
    by_cases hi : i = j
    · subst hi; exact ll_irr _
    · exact nl_trans (h i (j - 1) (by omega) (by omega)) e
  · exact h i j hij (by omega)
theorem Dn.step {p : Array Nat} {n : Nat} (h1 : 1 ≤ n) (h : Dn key p n) (e : ll (Bk key p (n - 1)) (Bk key p n) = false) : Dn key p (n + 1) := fun i j hij hj => by
  by_cases hjn : j = n
  · subst hjn
    by_cases hi : i = j
    · subst hi; exact ll_irr _
    · exact nl_trans e (h i (j - 1) (by omega) (by omega))
  · exact h i j hij (by omega)
theorem asc_ok {p : Array Nat} : ∀ (f n : Nat), 1 ≤ n → Up key p n → n ≤ krun (cK key) (kas_asc p f n) ∧ krun (cK key) (kas_asc p f n) ≤ n + f ∧ Up key p (krun (cK key) (kas_asc p f n)) ∧
    (krun (cK key) (kas_asc p f n) < n + f → ll (Bk key p (krun (cK key) (kas_asc p f n))) (Bk key p (krun (cK key) (kas_asc p f n) - 1)) = true)
  | 0, n, h1, h => ⟨Nat.le_refl _, Nat.le_refl _, h, fun q => absurd q (Nat.lt_irrefl _)⟩
  | f + 1, n, h1, h => by
    have e : krun (cK key) (kas_asc p (f + 1) n) = krun (cK key) (if ll (Bk key p n) (Bk key p (n - 1)) = true then .ret n else kas_asc p f (n + 1)) := rfl
    rw [e]
    cases c : ll (Bk key p n) (Bk key p (n - 1)) with
    | true => exact ⟨Nat.le_refl _, Nat.le_add_right _ _, h, fun _ => c⟩
    | false =>
      simp only [Bool.false_eq_true, if_false]
      obtain ⟨a1, a2, a3, a4⟩ := asc_ok f (n + 1) (by omega) (h.step h1 c)
      exact ⟨by omega, by omega, a3, fun q => a4 (by omega)⟩
theorem rev_at {p : Array Nat} {i j : Nat} (hj : j ≤ p.size) (k : Nat) : Bk key (kas_rev p i j) k = if i ≤ k ∧ k < j then Bk key p (i + j - 1 - k) else Bk key p k := by
  unfold Bk kas_rev
  have e := getElem?_mirror_all (xs := p) (i := i) hj k
  have g : ∀ (q : Array Nat) (m : Nat), q.getD m 0 = (q[m]?).getD 0 := fun q m => by simp [Array.getD_eq_getD_getElem?]
  rw [g, g, g, e]
  split <;> rfl
theorem rev_size {p : Array Nat} {i j : Nat} : (kas_rev p i j).size = p.size := mirror_size _ _ _ _
theorem rev_perm {p : Array Nat} {i j : Nat} : (kas_rev p i j).Perm p := mirror_perm _ _ _ _
theorem rev_eq {p : Array Nat} {i j : Nat} (hj : j ≤ p.size) (h : ∀ a b, i ≤ a → a < j → i ≤ b → b < j → Bk key p a = Bk key p b) (k : Nat) : Bk key (kas_rev p i j) k = Bk key p k := by
  rw [rev_at hj]
  split
  · exact h _ _ (by omega) (by omega) (by omega) (by omega)
  · rfl
theorem Dn.congr {p p' : Array Nat} {m : Nat} (h : Dn key p m) (e : ∀ k, Bk key p' k = Bk key p k) : Dn key p' m := fun i j a b => by rw [e, e]; exact h i j a b
theorem desc_ok : ∀ (f : Nat) (p : Array Nat) (n q : Nat), q + 1 ≤ n → n + f ≤ p.size → Dn key p n → (∀ a b, n - (q + 1) ≤ a → a < n → n - (q + 1) ≤ b → b < n → Bk key p a = Bk key p b) →
    let r := krun (cK key) (kas_desc f p n q)
    r.1.Perm p ∧ r.1.size = p.size ∧ n ≤ r.2.1 ∧ r.2.1 ≤ n + f ∧ r.2.2 + 1 ≤ r.2.1 ∧ Dn key r.1 r.2.1 ∧ (∀ a b, r.2.1 - (r.2.2 + 1) ≤ a → a < r.2.1 → r.2.1 - (r.2.2 + 1) ≤ b → b < r.2.1 → Bk key r.1 a = Bk key r.1 b)
  | 0, p, n, q, h1, hz, h, he => ⟨Array.Perm.refl _, rfl, Nat.le_refl _, Nat.le_refl _, h1, h, he⟩
  | f + 1, p, n, q, h1, hz, h, he => by
    have e : krun (cK key) (kas_desc (f + 1) p n q) = krun (cK key) (if ll (Bk key p n) (Bk key p (n - 1)) = true then (if q > 0 then kas_desc f (kas_rev p (n - (q + 1)) n) (n + 1) 0 else kas_desc f p (n + 1) 0)
      else .ask (p.getD (n - 1) 0) (p.getD n 0) fun d => if d = true then .ret (p, n, q) else kas_desc f p (n + 1) (q + 1)) := rfl
    intro r
    have er : r = krun (cK key) (kas_desc (f + 1) p n q) := rfl
    rw [e] at er
    cases c : ll (Bk key p n) (Bk key p (n - 1)) with
    | true =>
      rw [c] at er
      simp only [if_true] at er
      by_cases hq : q > 0
      · rw [if_pos hq] at er
        have eq := rev_eq (key := key) (p := p) (i := n - (q + 1)) (j := n) (by omega) he
        have hd : Dn key (kas_rev p (n - (q + 1)) n) (n + 1) := (h.step (by omega) (ll_asym c)).congr eq
        obtain ⟨a1, a2, a3, a4, a5, a6, a7⟩ := desc_ok f (kas_rev p (n - (q + 1)) n) (n + 1) 0 (by omega) (by rw [rev_size]; omega) hd (fun a b _ _ _ _ => by rw [show a = b by omega])
        rw [er]
        exact ⟨a1.trans rev_perm, a2.trans rev_size, by omega, by omega, a5, a6, a7⟩
      · rw [if_neg hq] at er
        obtain ⟨a1, a2, a3, a4, a5, a6, a7⟩ := desc_ok f p (n + 1) 0 (by omega) (by omega) (h.step (by omega) (ll_asym c)) (fun a b _ _ _ _ => by rw [show a = b by omega])
        rw [er]
        exact ⟨a1, a2, by omega, by omega, a5, a6, a7⟩
    | false =>
      rw [c] at er
      simp only [Bool.false_eq_true, if_false] at er
      have er2 : r = krun (cK key) (if ll (Bk key p (n - 1)) (Bk key p n) = true then .ret (p, n, q) else kas_desc f p (n + 1) (q + 1)) := er
      cases c2 : ll (Bk key p (n - 1)) (Bk key p n) with
      | true =>
        rw [c2] at er2
        simp only [if_true] at er2
        rw [er2]
        exact ⟨Array.Perm.refl _, rfl, Nat.le_refl _, Nat.le_add_right _ _, h1, h, he⟩
      | false =>
        rw [c2] at er2
        simp only [Bool.false_eq_true, if_false] at er2
        have hk : Bk key p (n - 1) = Bk key p n := ll_tri c2 c
        have hee : ∀ a, n + 1 - (q + 1 + 1) ≤ a → a < n + 1 → Bk key p a = Bk key p n := fun a l1 l2 => by
          by_cases ha : a = n
          · rw [ha]
          · rw [← hk]; exact he a (n - 1) (by omega) (by omega) (by omega) (by omega)
        obtain ⟨a1, a2, a3, a4, a5, a6, a7⟩ := desc_ok f p (n + 1) (q + 1) (by omega) (by omega) (h.step (by omega) c2) (fun a b l1 l2 l3 l4 => by rw [hee a l1 l2, hee b l3 l4])
        rw [er2]
        exact ⟨a1, a2, by omega, by omega, a5, a6, a7⟩
def CntOk (key : Nat → List Int) (nrem : Nat) (p : Array Nat) (r : Nat × Array Nat) : Prop := r.2.Perm p ∧ r.2.size = p.size ∧ 1 ≤ r.1 ∧ r.1 ≤ nrem ∧ Up key r.2 r.1
theorem tail3_ok {n nrem : Nat} {p : Array Nat} (h1 : 1 ≤ n) (hn : n ≤ nrem) (hz : nrem ≤ p.size) (h : Dn key p n) : CntOk key nrem p (krun (cK key) (kas_tail3 n nrem p)) := by
  unfold kas_tail3
  rw [krun_bind]
  have up : Up key (kas_rev p 0 n) n := fun i j hij hj => by
    rw [rev_at (by omega), rev_at (by omega), if_pos (by omega), if_pos (by omega)]
    exact h _ _ (by omega) (by omega)
  obtain ⟨a1, a2, a3, _⟩ := asc_ok (key := key) (p := kas_rev p 0 n) (nrem - n) n h1 up
  exact ⟨rev_perm, rev_size, Nat.le_trans h1 a1, by show krun _ _ ≤ _; omega, a3⟩
theorem descPart_ok {n nrem : Nat} {p : Array Nat} (h1 : 1 ≤ n) (hn : n + 1 ≤ nrem) (hz : nrem ≤ p.size) (h : Dn key p (n + 1)) : CntOk key nrem p (krun (cK key) (kas_descPart n nrem p)) := by
  unfold kas_descPart
  rw [krun_bind]
  obtain ⟨a1, a2, a3, a4, a5, a6, a7⟩ := desc_ok (key := key) (nrem - (n + 1)) p (n + 1) 0 (by omega) (by omega) h (fun a b _ _ _ _ => by rw [show a = b by omega])
  generalize krun (cK key) (kas_desc (nrem - (n + 1)) p (n + 1) 0) = r at *
  by_cases hq : r.2.2 > 0
  · rw [if_pos hq]
    have eq := rev_eq (key := key) (p := r.1) (i := r.2.1 - (r.2.2 + 1)) (j := r.2.1) (by omega) a7
    obtain ⟨b1, b2, b3, b4, b5⟩ := tail3_ok (key := key) (n := r.2.1) (nrem := nrem) (p := kas_rev r.1 (r.2.1 - (r.2.2 + 1)) r.2.1) (by omega) (by omega) (by rw [rev_size, a2]; exact hz) (a6.congr eq)
    exact ⟨b1.trans (rev_perm.trans a1), b2.trans (rev_size.trans a2), b3, b4, b5⟩
  · rw [if_neg hq]
    obtain ⟨b1, b2, b3, b4, b5⟩ := tail3_ok (key := key) (n := r.2.1) (nrem := nrem) (p := r.1) (by omega) (by omega) (by rw [a2]; exact hz) a6
    exact ⟨b1.trans a1, b2.trans a2, b3, b4, b5⟩
theorem count_ok {nrem : Nat} {p : Array Nat} (h1 : 1 ≤ nrem) (hz : nrem ≤ p.size) : CntOk key nrem p (krun (cK key) (kas_count nrem p)) := by
  unfold kas_count
  rw [krun_bind]
  have up1 : Up key p 1 := fun i j hij hj => by rw [show i = j by omega]; exact ll_irr _
  obtain ⟨a1, a2, a3, a4⟩ := asc_ok (key := key) (p := p) (nrem - 1) 1 (Nat.le_refl _) up1
  generalize krun (cK key) (kas_asc p (nrem - 1) 1) = n at *
  by_cases hn : n = nrem
  · rw [if_pos (by simpa using hn)]
    exact ⟨Array.Perm.refl _, rfl, a1, by show n ≤ nrem; omega, a3⟩
  · rw [if_neg (by simpa using hn)]
    have hlt : n < 1 + (nrem - 1) := by omega
    have hd := a4 hlt
    by_cases hg : n > 1
    · rw [if_pos hg]
      have e : krun (cK key) (.ask (p.getD 0 0) (p.getD (n - 1) 0) fun c => if c = true then .ret (n, p) else kas_descPart n nrem (kas_rev p 0 n)) = krun (cK key) (if ll (Bk key p 0) (Bk key p (n - 1)) = true then .ret (n, p) else kas_descPart n nrem (kas_rev p 0 n)) := rfl
      rw [e]
      cases c : ll (Bk key p 0) (Bk key p (n - 1)) with
      | true =>
        simp only [if_true]
        exact ⟨Array.Perm.refl _, rfl, a1, by show n ≤ nrem; omega, a3⟩
      | false =>
        simp only [Bool.false_eq_true, if_false]
        have all0 : ∀ a, a < n → Bk key p a = Bk key p 0 := fun a ha => by
          refine ll_tri ?_ ?_
          ·
            exact a3 0 a (by omega) ha
          · exact nl_trans (a3 a (n - 1) (by omega) (by omega)) c
        have eq := rev_eq (key := key) (p := p) (i := 0) (j := n) (by omega) (fun a b _ l2 _ l4 => by rw [all0 a l2, all0 b l4])
        have dn : Dn key (kas_rev p 0 n) (n + 1) := by
          refine Dn.congr (p := p) (fun i j hij hj => ?_) eq
          by_cases hjn : j = n
          · subst hjn
            by_cases hi : i = j
            · rw [hi]; exact ll_irr _
            · rw [all0 i (by omega), ← all0 (j - 1) (by omega)]
              exact ll_asym hd
          · rw [all0 i (by omega), all0 j (by omega)]; exact ll_irr _
        obtain ⟨b1, b2, b3, b4, b5⟩ := descPart_ok (key := key) (n := n) (nrem := nrem) (p := kas_rev p 0 n) a1 (by omega) (by rw [rev_size]; exact hz) dn
        exact ⟨b1.trans rev_perm, b2.trans rev_size, b3, b4, b5⟩
    · rw [if_neg hg]
      have hn1 : n = 1 := by omega
      subst hn1
      refine descPart_ok (Nat.le_refl _) (by omega) hz fun i j hij hj => ?_
      by_cases hi : i = j
      · rw [hi]; exact ll_irr _
      · have : i = 0 := by omega
        have : j = 1 := by omega
        subst i; subst j
        exact ll_asym hd
theorem place_ok {p : Array Nat} {k : Nat} (hs : Up key p k) : ∀ (f l r : Nat), l ≤ r → r ≤ k → r - l ≤ f → (∀ i, i < l → ll (Bk key p k) (Bk key p i) = false) → (∀ i, r ≤ i → i < k → ll (Bk key p k) (Bk key p i) = true) →
    l ≤ krun (cK key) (kas_place p k f l r) ∧ krun (cK key) (kas_place p k f l r) ≤ r ∧ (∀ i, i < krun (cK key) (kas_place p k f l r) → ll (Bk key p k) (Bk key p i) = false) ∧ (∀ i, krun (cK key) (kas_place p k f l r) ≤ i → i < k → ll (Bk key p k) (Bk key p i) = true)
  | 0, l, r, h1, h2, h3, h4, h5 => by
    have e : krun (cK key) (kas_place p k 0 l r) = l := rfl
    rw [e]
    exact ⟨Nat.le_refl _, h1, h4, fun i a b => h5 i (by omega) b⟩
  | f + 1, l, r, h1, h2, h3, h4, h5 => by
    have e : krun (cK key) (kas_place p k (f + 1) l r) = krun (cK key) (if l ≥ r then .ret l else .ask (p.getD k 0) (p.getD ((l + r) / 2) 0) fun c => if c = true then kas_place p k f l ((l + r) / 2) else kas_place p k f ((l + r) / 2 + 1) r) := rfl
    rw [e]
    by_cases hlr : l ≥ r
    · rw [if_pos hlr]
      exact ⟨Nat.le_refl _, h1, h4, fun i a b => h5 i (by have a' : l ≤ i := a; omega) b⟩
    · rw [if_neg hlr]
      have e2 : krun (cK key) (.ask (p.getD k 0) (p.getD ((l + r) / 2) 0) fun c => if c = true then kas_place p k f l ((l + r) / 2) else kas_place p k f ((l + r) / 2 + 1) r) = krun (cK key) (if ll (Bk key p k) (Bk key p ((l + r) / 2)) = true then kas_place p k f l ((l + r) / 2) else kas_place p k f ((l + r) / 2 + 1) r) := rfl
      rw [e2]
      cases c : ll (Bk key p k) (Bk key p ((l + r) / 2)) with
      | true =>
        simp only [if_true]
        obtain ⟨a1, a2, a3, a4⟩ := place_ok hs f l ((l + r) / 2) (by omega) (by omega) (by omega) h4 (fun i ha hb => ll_of_le c (hs _ i ha hb))
        exact ⟨a1, by omega, a3, a4⟩
      | false =>
        simp only [Bool.false_eq_true, if_false]
        obtain ⟨a1, a2, a3, a4⟩ := place_ok hs f ((l + r) / 2 + 1) r (by omega) h2 (by omega) (fun i hi => nl_trans (hs i ((l + r) / 2) (by omega) (by omega)) c) h5
        exact ⟨by omega, a2, a3, a4⟩
theorem bub_at {p : Array Nat} {k d : Nat} (hk : k < p.size) (hd : d ≤ k) (m : Nat) : Bk key (bubble p k d) m = if m = k - d then Bk key p k else if k - d < m ∧ m ≤ k then Bk key p (m - 1) else Bk key p m := by
  unfold Bk
  have e := getElem?_bubble (xs := p) hk d hd m
  have g : ∀ (q : Array Nat) (m : Nat), q.getD m 0 = (q[m]?).getD 0 := fun q m => by simp [Array.getD_eq_getD_getElem?]
  rw [g, g, g, g, e]
  split
  · rfl
  · split <;> rfl
theorem bin_ok : ∀ (f : Nat) (p : Array Nat) (k : Nat), k + f ≤ p.size → Up key p k → (krun (cK key) (kas_bin f p k)).Perm p ∧ (krun (cK key) (kas_bin f p k)).size = p.size ∧ Up key (krun (cK key) (kas_bin f p k)) (k + f)
  | 0, p, k, _, h => ⟨Array.Perm.refl _, rfl, h⟩
  | f + 1, p, k, hz, h => by
    have e : krun (cK key) (kas_bin (f + 1) p k) = krun (cK key) (kas_bin f (bubble p k (k - krun (cK key) (kas_place p k k 0 k))) (k + 1)) := by
      show krun (cK key) ((kas_place p k k 0 k).bind fun l => kas_bin f (bubble p k (k - l)) (k + 1)) = _
      rw [krun_bind]
    obtain ⟨a1, a2, a3, a4⟩ := place_ok h k 0 k (Nat.zero_le _) (Nat.le_refl _) (by omega) (fun i hi => absurd hi (Nat.not_lt_zero _)) (fun i hi hi2 => absurd hi2 (by omega))
    rw [e]
    generalize krun (cK key) (kas_place p k k 0 k) = l at *
    have up : Up key (bubble p k (k - l)) (k + 1) := fun i j hij hj => by
      have hkl : k - (k - l) = l := by omega
      have at_l : Bk key (bubble p k (k - l)) l = Bk key p k := by rw [bub_at (by omega) (by omega), hkl, if_pos rfl]
      have at_g : ∀ m, l < m → m ≤ k → Bk key (bubble p k (k - l)) m = Bk key p (m - 1) := fun m q1 q2 => by rw [bub_at (by omega) (by omega), hkl, if_neg (by omega), if_pos ⟨q1, q2⟩]
      have at_s : ∀ m, m < l → Bk key (bubble p k (k - l)) m = Bk key p m := fun m q1 => by rw [bub_at (by omega) (by omega), hkl, if_neg (by omega), if_neg (by omega)]
      rcases Nat.lt_trichotomy i l with hi | hi | hi
      · rw [at_s i hi]
        rcases Nat.lt_trichotomy j l with hjl | hjl | hjl
        · rw [at_s j hjl]; exact h i j hij (by omega)
        · rw [hjl, at_l]; exact a3 i hi
        · rw [at_g j hjl (by omega)]; exact h i (j - 1) (by omega) (by omega)
      · rw [hi, at_l]
        rcases Nat.lt_trichotomy j l with hjl | hjl | hjl
        · omega
        · rw [hjl, at_l]; exact ll_irr _
        · rw [at_g j hjl (by omega)]; exact ll_asym (a4 (j - 1) (by omega) (by omega))
      · rw [at_g i hi (by omega), at_g j (by omega) (by omega)]
        exact h (i - 1) (j - 1) (by omega) (by omega)
    obtain ⟨b1, b2, b3⟩ := bin_ok f (bubble p k (k - l)) (k + 1) (by rw [bubble_size]; omega) up
    exact ⟨b1.trans (bubble_perm _ _ _), b2.trans (bubble_size _ _ _), by rw [show k + (f + 1) = k + 1 + f by omega]; exact b3⟩
theorem sort_ok {n : Nat} (h1 : 1 ≤ n) : (krun (cK key) (kas_sort n)).Perm (List.toArray (List.range n)) ∧ (krun (cK key) (kas_sort n)).size = n ∧ Up key (krun (cK key) (kas_sort n)) n := by
  unfold kas_sort
  rw [krun_bind]
  have hz : (List.toArray (List.range n)).size = n := by simp
  obtain ⟨a1, a2, a3, a4, a5⟩ := count_ok (key := key) (nrem := n) (p := List.toArray (List.range n)) h1 (by omega)
  generalize krun (cK key) (kas_count n (List.toArray (List.range n))) = r at *
  by_cases hr : r.1 < n
  · rw [if_pos hr]
    have hm : max r.1 1 = r.1 := by omega
    rw [hm]
    obtain ⟨b1, b2, b3⟩ := bin_ok (key := key) (n - r.1) r.2 r.1 (by omega) a5
    exact ⟨b1.trans a1, by rw [b2, a2, hz], by rw [show r.1 + (n - r.1) = n by omega] at b3; exact b3⟩
  · rw [if_neg hr]
    have : r.1 = n := by omega
    rw [this] at a5
    exact ⟨a1, by show r.2.size = n; rw [a2, hz], a5⟩
end
end L3
set_option Elab.async false
set_option linter.all false
set_option maxRecDepth 100000
set_option maxHeartbeats 4000000
set_option autoImplicit false
namespace L3
open PySem PySem.Spec L2
open PyProof.Rows hiding St
open PySem.W (KasT kas_asc kas_desc kas_tail3 kas_descPart kas_count kas_place kas_bin kas_sort kas_rev kas_ask kas_item)
def AskR {α : Type} (n : Nat) (R : α → Prop) : KasT α → Prop
  | .ret a => R a
  | .ask i j k => i < n ∧ j < n ∧ ∀ b, AskR n R (k b)
theorem AskR.bind {α β : Type} {n : Nat} {R : α → Prop} {R' : β → Prop} {f : α → KasT β} : ∀ {t : KasT α}, AskR n R t → (∀ a, R a → AskR n R' (f a)) → AskR n R' (t.bind f)
  | .ret a, h, hf => hf a h
  | .ask i j k, h, hf => ⟨h.1, h.2.1, fun b => AskR.bind (h.2.2 b) hf⟩
def AllB (n : Nat) (p : Array Nat) : Prop := 1 ≤ n ∧ ∀ x, x ∈ p → x < n
theorem AllB.get {n : Nat} {p : Array Nat} (h : AllB n p) (k : Nat) : p.getD k 0 < n := by
  rw [Array.getD_eq_getD_getElem?]
  cases e : p[k]? with
  | none => exact h.1
  | some x => exact h.2 x (Array.mem_of_getElem? e)
theorem AllB.perm {n : Nat} {p q : Array Nat} (h : AllB n p) (hp : q.Perm p) : AllB n q := ⟨h.1, fun x hx => h.2 x (hp.mem_iff.mp hx)⟩
theorem ask_asc {n : Nat} {p : Array Nat} (h : AllB n p) : ∀ (f m : Nat), AskR n (fun _ => True) (kas_asc p f m)
  | 0, _ => trivial
  | f + 1, m => ⟨h.get _, h.get _, fun b => by cases b with
    | true => exact trivial
    | false => exact ask_asc h f (m + 1)⟩
theorem ask_desc {n : Nat} : ∀ (f : Nat) (p : Array Nat) (m q : Nat), AllB n p → AskR n (fun r => AllB n r.1) (kas_desc f p m q)
  | 0, p, m, q, h => h
  | f + 1, p, m, q, h => ⟨h.get _, h.get _, fun b => by
    cases b with
    | true =>
      show AskR n _ (if q > 0 then kas_desc f (kas_rev p (m - (q + 1)) m) (m + 1) 0 else kas_desc f p (m + 1) 0)
      split
      · exact ask_desc f _ _ _ (h.perm rev_perm)
      · exact ask_desc f _ _ _ h
    | false =>
      refine ⟨h.get _, h.get _, fun d => ?_⟩
      cases d with
      | true => exact h
      | false => exact ask_desc f _ _ _ h⟩
theorem ask_tail3 {n m nrem : Nat} {p : Array Nat} (h : AllB n p) : AskR n (fun r => AllB n r.2) (kas_tail3 m nrem p) :=
  AskR.bind (ask_asc (h.perm rev_perm) _ _) fun _ _ => h.perm rev_perm
theorem ask_descPart {n m nrem : Nat} {p : Array Nat} (h : AllB n p) : AskR n (fun r => AllB n r.2) (kas_descPart m nrem p) :=
  AskR.bind (ask_desc _ _ _ _ h) fun r hr => by
    split
    · exact ask_tail3 (hr.perm rev_perm)
    · exact ask_tail3 hr
theorem ask_count {n nrem : Nat} {p : Array Nat} (h : AllB n p) : AskR n (fun r => AllB n r.2) (kas_count nrem p) :=
  AskR.bind (ask_asc h _ _) fun m _ => by
    split
    · exact h
    · split
      · refine ⟨h.get _, h.get _, fun b => ?_⟩
        cases b with
        | true => exact h
        | false => exact ask_descPart (h.perm rev_perm)
      · exact ask_descPart h
theorem ask_place {n k : Nat} {p : Array Nat} (h : AllB n p) : ∀ (f l r : Nat), AskR n (fun _ => True) (kas_place p k f l r)
  | 0, _, _ => trivial
  | f + 1, l, r => by
    unfold kas_place
    split
    · exact trivial
    · refine ⟨h.get _, h.get _, fun b => ?_⟩
      cases b with
      | true => exact ask_place h f _ _
      | false => exact ask_place h f _ _
theorem ask_bin {n : Nat} : ∀ (f : Nat) (p : Array Nat) (k : Nat), AllB n p → AskR n (fun q => AllB n q) (kas_bin f p k)
  | 0, p, k, h => h
  | f + 1, p, k, h => AskR.bind (ask_place h _ _ _) fun l _ => ask_bin f _ _ (h.perm (bubble_perm _ _ _))
theorem ask_sort {n : Nat} (h1 : 1 ≤ n) : AskR n (fun _ => True) (kas_sort n) := by
  have h : AllB n (List.toArray (List.range n)) := ⟨h1, fun x hx => by simpa using hx⟩
  refine AskR.bind (ask_count h) fun r hr => ?_
  split
  · exact AskR.bind (t := kas_bin _ _ _) (f := KasT.ret) (R := fun _ => True) (by
      have := ask_bin (n - max r.1 1) r.2 (max r.1 1) hr
      exact (show ∀ {t : KasT (Array Nat)}, AskR n (fun q => AllB n q) t → AskR n (fun _ => True) t from fun {t} => by
        induction t with
        | ret a => intro _; trivial
        | ask i j k ih => intro h; exact ⟨h.1, h.2.1, fun b => ih b (h.2.2 b)⟩) this) (fun _ _ => trivial) |> fun h => by
      have e : ∀ (t : KasT (Array Nat)), t.bind KasT.ret = t := fun t => by
        induction t with
        | ret a => rfl
        | ask i j k ih => show KasT.ask i j (fun b => (k b).bind KasT.ret) = _; congr 1; funext b; exact ih b
      rw [e] at h; exact h
  · exact trivial
theorem wp_run {α : Type} {n : Nat} {R : α → Prop} {c : Nat → Nat → Bool} {cmp : Nat → Nat → (Bool → Shared → Prop) → Shared → Prop} {Q : α → Shared → Prop} {s : Shared} (hc : ∀ i j C, i < n → j < n → C (c i j) s → cmp i j C s) :
    ∀ {t : KasT α}, AskR n R t → Q (krun c t) s → t.kasWp cmp Q s
  | .ret a, _, h => h
  | .ask i j k, ha, h => hc i j _ ha.1 ha.2.1 (wp_run hc (ha.2.2 (c i j)) h)
section
variable {prog : Program} {w : World} {A : Around} {E : Value → Shared → Prop} {s : Shared}
def outOf (key : Nat → List Int) (vs : List Value) : List Value := if vs.length < 2 then vs else (krun (cK key) (kas_sort vs.length)).toList.map fun i => vs.getD i Value.none
theorem outOf_len {key : Nat → List Int} {vs : List Value} : (outOf key vs).length = vs.length := by
  unfold outOf
  split
  · rfl
  · rw [List.length_map, Array.length_toList]
    exact (sort_ok (key := key) (n := vs.length) (by omega)).2.1
theorem list_sort_by {a : Addr} {vs : List Value} {n : Nat} {P : PySem.Fin → Shared → Prop} {κ : SortKind} {key : Nat → List Int} (ho : s.heap.get? a = some (seqObj "list" vs.toArray n)) (h64 : vs.length < 64)
    (hk : ∀ (s' : Shared) (Q : SortKind → Shared → Prop) (E : Value → Shared → Prop), (∀ b o, b ≠ a → s.heap.get? b = some o → s'.heap.get? b = some o) → 2 ≤ vs.length → Q κ s' → wpAny (model prog w) A (keyKind' vs.toArray) Q E s')
    (hc : ∀ (s' : Shared) (i j : Nat) (Q : Bool → Shared → Prop) (E : Value → Shared → Prop), (∀ b o, b ≠ a → s.heap.get? b = some o → s'.heap.get? b = some o) → i < vs.length → j < vs.length → Q (cK key i j) s' →
      wpAny (model prog w) A (keyLt' κ (vs.getD i Value.none) (vs.getD j Value.none)) Q E s')
    (h : P (.done (.ret .none)) { s with heap := sortedHeap s.heap a vs (outOf key vs).toArray }) : wpAny (model prog w) A (Builtin.«list.sort» ⟨[.ref a], []⟩) P E s := by
  rw [list_sort_plain]
  have ha : a < s.heap.objs.size := Heap.lt_size ho
  refine wpAny_bind (listItems_at ho rfl ?_)
  refine wpAny_bind (listUpdate_at ho rfl ?_ (by rw [List.size_toArray, sizeLine_eq]; omega) (Nat.zero_le _))
  obtain ⟨c1, ho1⟩ : ∃ c1, (s.heap.update a (Obj.mapSeq fun _ => #[])).get? a = some (seqObj "list" #[] c1) := ⟨_, get?_update_seq ho (fun _ => #[])⟩
  refine wpAny_bind (seqEpoch_at ho1 rfl ?_)
  refine wpAny_bind (wpAny_newTuple ?_ (by show vs.length ≤ _; rw [sizeLine_eq]; omega))
  refine wpAny_bind (wpAny_newList ?_ (Nat.zero_le _))
  refine wpAny_holding ?_
  have z1 : (s.heap.update a (Obj.mapSeq fun _ => #[])).objs.size = s.heap.objs.size := Heap.size_update ..
  have keep : ∀ b o, b ≠ a → s.heap.get? b = some o → (((s.heap.update a (Obj.mapSeq fun _ => #[])).push (seqObj "tuple" vs.toArray 0)).push (seqObj "list" #[] 0)).get? b = some o := fun b o hb e =>
    Heap.get?_push_of_some _ (Heap.get?_push_of_some _ (by rw [Heap.get?_update_ne _ _ _ _ hb]; exact e))
  have ho3 : (((s.heap.update a (Obj.mapSeq fun _ => #[])).push (seqObj "tuple" vs.toArray 0)).push (seqObj "list" #[] 0)).get? a = some (seqObj "list" #[] c1) := Heap.get?_push_of_some _ (Heap.get?_push_of_some _ ho1)
  show wpAny (model prog w) A _ P E { s with heap := ((s.heap.update a (Obj.mapSeq fun _ => #[])).push (seqObj "tuple" vs.toArray 0)).push (seqObj "list" #[] 0) }
  dsimp only
  have hsz : vs.toArray.size = vs.length := List.size_toArray ..
  by_cases h2 : vs.length < 2
  · have h2' : vs.toArray.size < 2 := by omega
    rw [if_pos h2', if_pos h2']
    refine wpAny_bind (wpAny_pure ?_)
    rw [StateT.run_pure]
    refine wpAny_bind (wpAny_pure ?_)
    dsimp only
    have eo : (arrOf (SortSt.mk' general' (vs.toArray.zip vs.toArray) #[] 7 none)).map (·.2) = (outOf key vs).toArray := by
      show ((vs.toArray.zip vs.toArray).map (·.2)) = _
      unfold outOf
      rw [if_pos h2]
      apply Array.toList_inj.mp
      simp
      exact List.map_snd_zip (Nat.le_refl _)
    refine wpAny_bind (seqEpoch_at ho3 rfl ?_)
    rw [eo]
    refine wpAny_bind (listUpdate_at ho3 rfl ?_ (Nat.zero_le _) (by rw [List.size_toArray, outOf_len, sizeLine_eq]; omega))
    simp only [bne_self_eq_false, Bool.false_eq_true, if_false]
    exact wpAny_pure h
  · have h2' : ¬ vs.toArray.size < 2 := by omega
    rw [if_neg h2', if_neg h2']
    refine wpAny_bind (hk _ _ _ keep (by omega) ?_)
    refine wpAny_bind (wpAny_mono (PySem.W.kat_run (ks := vs) (vs := vs) (κ := κ) (Q := fun st' s' => s' = { s with heap := ((s.heap.update a (Obj.mapSeq fun _ => #[])).push (seqObj "tuple" vs.toArray 0)).push (seqObj "list" #[] 0) } ∧ (arrOf st').map (·.2) = (outOf key vs).toArray ∧ failedOf st' = none)
      (G := fun p s' => p = krun (cK key) (kas_sort vs.length) ∧ s' = { s with heap := ((s.heap.update a (Obj.mapSeq fun _ => #[])).push (seqObj "tuple" vs.toArray 0)).push (seqObj "list" #[] 0) }) rfl (by omega) h64 (fun p st' s' _ q2 q3 q4 => ?_) ?_) ?_ fun _ _ x => x)
    · obtain ⟨rfl, rfl⟩ := q4
      refine ⟨rfl, ?_, q3⟩
      rw [PySem.W.kat_snds rfl q2]
      unfold outOf
      rw [if_neg h2]
    · exact wp_run (fun i j C hi hj hC => hc _ i j C _ keep hi hj hC) (ask_sort (by omega)) ⟨rfl, rfl⟩
    · rintro ⟨⟨⟩, st'⟩ s' ⟨rfl, hout, hf⟩
      dsimp only
      refine wpAny_bind (seqEpoch_at ho3 rfl ?_)
      rw [hout]
      refine wpAny_bind (listUpdate_at ho3 rfl ?_ (Nat.zero_le _) (by rw [List.size_toArray, outOf_len, sizeLine_eq]; omega))
      rw [hf]
      simp only [bne_self_eq_false, Bool.false_eq_true, if_false]
      exact wpAny_pure h
theorem sorted_by {l : Addr} {vs : List Value} {Q : Value → Shared → Prop} {κ : SortKind} {key : Nat → List Int} (hl : s.heap.IsList l vs.toArray) (h64 : vs.length < 64)
    (hk : ∀ (A' : Around) (s' : Shared) (Q : SortKind → Shared → Prop) (E : Value → Shared → Prop), A'.units ≤ A.units + 2 → (∀ b o, s.heap.get? b = some o → s'.heap.get? b = some o) → 2 ≤ vs.length → Q κ s' → wpAny (model prog w) A' (keyKind' vs.toArray) Q E s')
    (hc : ∀ (A' : Around) (s' : Shared) (i j : Nat) (Q : Bool → Shared → Prop) (E : Value → Shared → Prop), A'.units ≤ A.units + 2 → (∀ b o, s.heap.get? b = some o → s'.heap.get? b = some o) → i < vs.length → j < vs.length → Q (cK key i j) s' →
      wpAny (model prog w) A' (keyLt' κ (vs.getD i Value.none) (vs.getD j Value.none)) Q E s')
    (h : Q (.ref (s.heap.objs.size + 1)) { s with heap := sortedAll s.heap vs (outOf key vs).toArray }) : wpAny (model prog w) A (call (.builtin "sorted") [.ref l]) Q E s := by
  refine Calls.call_function_entry kind_sorted plain_sorted entry_sorted (args_sorted1 _) ?_
  unfold Builtin.«sorted»
  refine wpAny_bind (m := checkCount "sorted" 1 1 _) (wpAny_pure ?_)
  refine wpAny_bind (collect_list hl ?_ (by rw [sizeLine_eq]; omega))
  refine wpAny_bind (wpAny_newList ?_ (by rw [sizeLine_eq]; omega))
  have z1 : ((s.heap.push (seqObj "list" #[] 0)).update s.heap.objs.size (Obj.mapSeq (· ++ vs.toArray))).objs.size = s.heap.objs.size + 1 := by rw [Heap.size_update, size_push']
  have hoL : (((s.heap.push (seqObj "list" #[] 0)).update s.heap.objs.size (Obj.mapSeq (· ++ vs.toArray))).push (seqObj "list" vs.toArray 0)).get? (s.heap.objs.size + 1) = some (seqObj "list" vs.toArray 0) := by
    rw [← z1]; exact Heap.get?_push_size _ rfl
  have keep : ∀ b o, s.heap.get? b = some o → (((s.heap.push (seqObj "list" #[] 0)).update s.heap.objs.size (Obj.mapSeq (· ++ vs.toArray))).push (seqObj "list" vs.toArray 0)).get? b = some o := fun b o e =>
    Heap.get?_push_of_some _ (by rw [Heap.get?_update_ne _ _ _ _ (Nat.ne_of_lt (Heap.lt_size e))]; exact Heap.get?_push_of_some _ e)
  show wpAny _ _ _ _ _ { s with heap := ((s.heap.push (seqObj "list" #[] 0)).update s.heap.objs.size (Obj.mapSeq (· ++ vs.toArray))).push (seqObj "list" vs.toArray 0) }
  rw [z1]
  have ne1 : ∀ b o, s.heap.get? b = some o → b ≠ s.heap.objs.size + 1 := fun b o e => Nat.ne_of_lt (Nat.lt_succ_of_lt (Heap.lt_size e))
  refine wpAny_bind (wpAny_holding (wpAny_call_entry slot_list_sort ⟨_, hoL, rfl⟩ entry_list_sort (list_sort_by (κ := κ) (key := key) hoL h64
    (fun s' Q' E' kp h2 q => hk _ s' Q' E' ?_ (fun b o e => kp b o (ne1 b o e) (keep b o e)) h2 q) (fun s' i j Q' E' kp hi hj q => hc _ s' i j Q' E' ?_ (fun b o e => kp b o (ne1 b o e) (keep b o e)) hi hj q) ?_) (args_list_sort _)))
  · exact Nat.le_refl _
  · exact Nat.le_refl _
  · exact ⟨_, rfl, wpAny_pure ⟨_, rfl, h⟩⟩
end
def kT : D → Option (List Int)
  | .tuple xs => go xs
  | _ => none
where go : List D → Option (List Int)
  | [] => some []
  | .int i :: r => (go r).map (i :: ·)
  | _ :: _ => none
theorem kT_go : ∀ {xs : List D} {ks : List Int}, kT.go xs = some ks → xs = ks.map PyData.int
  | [], ks, h => by cases h; rfl
  | x :: r, ks, h => by
    cases x with
    | int i =>
      unfold kT.go at h
      cases e : kT.go r with
      | none => rw [e] at h; cases h
      | some cs => rw [e] at h; cases h; rw [kT_go e]; rfl
    | _ => cases h
theorem kT_is {d : D} {ks : List Int} (h : kT d = some ks) : d = .tuple (ks.map PyData.int) := by
  unfold kT at h
  split at h
  · rw [kT_go h]
  · cases h
theorem cL_ints : ∀ (ks ms : List Int), cL true (ks.map PyData.int) (ms.map PyData.int) = some (ll ks ms)
  | [], [] => rfl
  | [], _ :: _ => rfl
  | _ :: _, [] => rfl
  | x :: xs, y :: ys => by
    rw [List.map_cons, List.map_cons, cL]
    show (if (x == y) = true then _ else _) = some (HT.lexLt (x :: xs) (y :: ys))
    rw [HT.lexLt_cons]
    by_cases h : x = y
    · subst h
      rw [if_pos (beq_self_eq_true _), if_pos rfl]
      exact cL_ints xs ys
    · rw [if_neg (by simpa using h), if_neg h]
      rfl
theorem eqv_ints : ∀ (ks ms : List Int), PyData.eqvAll (ks.map PyData.int) (ms.map PyData.int) = decide (ks = ms)
  | [], [] => rfl
  | [], _ :: _ => rfl
  | _ :: _, [] => rfl
  | x :: xs, y :: ys => by
    rw [List.map_cons, List.map_cons, PyData.eqvAll, eqv_ints xs ys]
    show ((x == y) && decide (xs = ys)) = _
    by_cases h : x = y
    · subst h; simp
    · have : (x == y) = false := by simpa using h
      rw [this]; simp [h]
def ins (d : D) : List D → List D
  | [] => [d]
  | e :: r => if ll (kOf d) (kOf e) = true then d :: e :: r else e :: ins d r
where kOf (d : D) : List Int := (kT d).getD []
def srt : List D → List D
  | [] => []
  | d :: r => ins d (srt r)
abbrev kO := ins.kOf
theorem ins_perm (d : D) : ∀ xs : List D, (ins d xs).Perm (d :: xs)
  | [] => .refl _
  | e :: r => by
    unfold ins
    split
    · exact .refl _
    · exact ((ins_perm d r).cons e).trans (.swap d e r)
theorem srt_perm : ∀ xs : List D, (srt xs).Perm xs
  | [] => .refl _
  | d :: r => (ins_perm d (srt r)).trans ((srt_perm r).cons d)
def Ord (xs : List D) : Prop := xs.Pairwise fun a b => ll (kO b) (kO a) = false
theorem ins_ord (d : D) : ∀ {xs : List D}, Ord xs → Ord (ins d xs)
  | [], _ => by unfold ins Ord; simp
  | e :: r, h => by
    have h' := List.pairwise_cons.mp h
    unfold ins
    split
    · rename_i c
      refine List.pairwise_cons.mpr ⟨fun x hx => ?_, h⟩
      rcases List.mem_cons.mp hx with q | q
      · subst q; exact ll_asym c
      · exact nl_trans (ll_asym c) (h'.1 x q)
    · rename_i c
      refine List.pairwise_cons.mpr ⟨fun x hx => ?_, ins_ord d h'.2⟩
      rcases List.mem_cons.mp ((ins_perm d r).mem_iff.mp hx) with q | q
      · subst q; simpa using c
      · exact h'.1 x q
theorem srt_ord : ∀ xs : List D, Ord (srt xs)
  | [] => List.Pairwise.nil
  | d :: r => ins_ord d (srt_ord r)
theorem ord_one : ∀ {xs ys : List D}, xs.Perm ys → Ord xs → Ord ys → (∀ x ∈ xs, (kT x).isSome) → xs = ys
  | [], ys, hp, _, _, _ => by rw [List.nil_perm.mp hp]
  | x :: xs, [], hp, _, _, _ => by have := hp.length_eq; simp at this
  | x :: xs, y :: ys, hp, h1, h2, hk => by
    have p1 := List.pairwise_cons.mp h1
    have p2 := List.pairwise_cons.mp h2
    have exy : x = y := by
      by_cases e : x = y
      · exact e
      · have hx : x ∈ ys := by
          rcases List.mem_cons.mp (hp.mem_iff.mp List.mem_cons_self) with q | q
          · exact absurd q e
          · exact q
        have hy : y ∈ xs := by
          rcases List.mem_cons.mp (hp.mem_iff.mpr List.mem_cons_self) with q | q
          · exact absurd q.symm e
          · exact q
        have a1 := p1.1 y hy
        have a2 := p2.1 x hx
        have ek : kO x = kO y := ll_tri a2 a1
        obtain ⟨k1, e1⟩ := Option.isSome_iff_exists.mp (hk x List.mem_cons_self)
        obtain ⟨k2, e2⟩ := Option.isSome_iff_exists.mp (hk y (List.mem_cons_of_mem _ hy))
        have q1 : kO x = k1 := by show (kT x).getD [] = k1; rw [e1]; rfl
        have q2 : kO y = k2 := by show (kT y).getD [] = k2; rw [e2]; rfl
        rw [kT_is e1, kT_is e2, ← q1, ← q2, ek]
    subst exy
    rw [ord_one (List.Perm.cons_inv hp) p1.2 p2.2 fun z hz => hk z (List.mem_cons_of_mem _ hz)]
def gSrt (xs : List DV) : M DV := match xs with
  | [x] => bd (op (asL x)) fun ys => if ys.length < 64 ∧ ys.all (fun y => (kT y).isSome && decide ((kO y).length ≠ 0)) = true then rt (.new (srt ys)) else none
  | _ => none
theorem RpL.pick {Z : List Addr} {H : Hp} {ds : List D} {vs : List V} (l : RpL Z H ds vs) : ∀ (is : List Nat), (∀ i ∈ is, i < ds.length) → RpL Z H (is.map fun i => ds.getD i .none) (is.map fun i => vs.getD i .non)
  | [], _ => .nil
  | i :: r, h => by
    have hi := h i List.mem_cons_self
    obtain ⟨v, e, rv⟩ := l.get (i := i) (d := ds[i]) (by simp [hi])
    refine .cons ?_ (RpL.pick l r fun j hj => h j (List.mem_cons_of_mem _ hj))
    have e1 : ds.getD i .none = ds[i] := by simp [hi]
    have e2 : vs.getD i .non = v := by simp [List.getD_eq_getElem?_getD, e]
    show Rp Z H (ds.getD i .none) (vs.getD i .non)
    rw [e1, e2]; exact rv
theorem vals_pick {vs : List V} {us : List Value} (r : Vals vs us) : ∀ (is : List Nat), (∀ i ∈ is, i < vs.length) → Vals (is.map fun i => vs.getD i .non) (is.map fun i => us.getD i Value.none)
  | [], _ => .nil
  | i :: rs, h => by
    have hi := h i List.mem_cons_self
    obtain ⟨u, e, ru⟩ := r.get (i := i) (x := vs[i]) (by simp [hi])
    refine .cons ?_ (vals_pick r rs fun j hj => h j (List.mem_cons_of_mem _ hj))
    have e1 : vs.getD i .non = vs[i] := by simp [hi]
    have e2 : us.getD i Value.none = u := by simp [List.getD_eq_getElem?_getD, e]
    show RelV (vs.getD i .non) (us.getD i Value.none)
    rw [e1, e2]; exact ru
theorem tups_of {h : Heap} : ∀ (vs : List Value), (∀ v ∈ vs, ∃ b o its n i t, v = .ref b ∧ h.get? b = some o ∧ o.cls = .type "tuple" ∧ o.data = .seq its n ∧ its[0]? = some (.int i t)) → ∃ fs, PySem.W.KatTups h vs fs ∧ fs.length = vs.length ∧ ∀ f ∈ fs, ∃ i t, f = Value.int i t
  | [], _ => ⟨[], PySem.W.KatTups.nil, rfl, fun _ hf => nomatch hf⟩
  | v :: r, hv => by
    obtain ⟨b, o, its, n, i, t, rfl, eo, ec, ed, e0⟩ := hv v List.mem_cons_self
    obtain ⟨fs, h1, h2, h3⟩ := tups_of r fun u hu => hv u (List.mem_cons_of_mem _ hu)
    refine ⟨.int i t :: fs, PySem.W.KatTups.cons eo ec ed e0 h1, by simp [h2], fun f hf => ?_⟩
    rcases List.mem_cons.mp hf with e | e
    · exact ⟨i, t, e⟩
    · exact h3 f e
theorem lex_ints {prog : Program} {w : World} {A : Around} {s : Shared} {Q : Bool → Shared → Prop} {X Y : Nat} : ∀ {vs ws : List Value} {ks ms : List Int} (i : Nat), IntsAre vs ks → IntsAre ws ms → vs.length + Y = ws.length + X → Q (ll ks ms) s →
    PySem.W.KatLex prog w A true (decide (X < Y)) Q (vs.zip ws) i s
  | _, _, _, _, i, .nil, .nil, hl, h => by
    have : decide (X < Y) = false := decide_eq_false (by simp at hl; omega)
    rw [this]; exact h
  | _, _, _, _, i, .nil, .cons _ _ _, hl, h => by
    have : decide (X < Y) = true := decide_eq_true (by simp at hl; omega)
    rw [this]; exact h
  | _, _, _, _, i, .cons _ _ _, .nil, hl, h => by
    have : decide (X < Y) = false := decide_eq_false (by simp at hl; omega)
    rw [this]; exact h
  | _, _, x :: xs, y :: ys, i, .cons _ t h1, .cons _ u h2, hl, h => by
    have h' : Q (HT.lexLt (x :: xs) (y :: ys)) s := h
    rw [HT.lexLt_cons] at h'
    refine PySem.W.kat_cons (SeqAt.EqAt.int_int x t y u prog w _ _ ?_)
    by_cases e : x = y
    · subst e
      rw [if_pos rfl] at h'
      rw [beq_self_eq_true]
      exact PySem.W.kat_yes (lex_ints (i + 1) h1 h2 (by simp at hl; omega) h')
    · rw [if_neg e] at h'
      rw [show (x == y) = false by simpa using e]
      refine PySem.W.kat_no ?_
      cases hb : (true && i == 0) with
      | true => exact oneLt_int h'
      | false => exact PySem.W.kat_one _ _ (PyProof.Rows.lt_int h')
section
variable {X : Cx} {E : XK}
theorem range_pick {α : Type} (d : α) (xs : List α) : (List.range xs.length).map (fun i => xs.getD i d) = xs := by
  apply List.ext_getElem
  · simp
  · intro i h1 h2
    simp at h1
    simp [h1]
theorem cv_sorted (hu : X.A.units + 64 < cLine) : CallV X E (.builtin "sorted") gSrt := fun pins s σ O P H₀ H xs vs us r Q I hd hs rx rv e q => by
  unfold gSrt at e
  split at e
  · obtain ⟨ys, e1, e2⟩ := bd_op e
    split at e2
    · rename_i hz
      cases e2
      cases rx with
      | cons r1 rr =>
        cases rr
        obtain ⟨a, ws, rfl, ha, l⟩ := r1.list e1
        cases rv with
        | cons q1 q2 =>
          cases q2
          cases q1
          obtain ⟨its, ri, pl, hzz⟩ := I.list (SqL.of ha)
          have hlen : its.length = ys.length := by rw [← ri.length, l.length]
          have hkeys : ∀ i, i < ys.length → ∃ k, kT (ys.getD i .none) = some k ∧ k.length ≠ 0 := fun i hi => by
            have hm : ys[i] ∈ ys := List.getElem_mem hi
            have hall := List.all_eq_true.mp hz.2 _ hm
            rw [Bool.and_eq_true] at hall
            obtain ⟨k, ek⟩ := Option.isSome_iff_exists.mp hall.1
            refine ⟨k, by simpa [hi] using ek, ?_⟩
            have := of_decide_eq_true hall.2
            have ko : kO ys[i] = k := by show (kT ys[i]).getD [] = k; rw [ek]; rfl
            rwa [ko] at this
          have item : ∀ i, i < ys.length → ∃ b tv k its' o n, its.getD i Value.none = .ref b ∧ kT (ys.getD i .none) = some k ∧ k.length ≠ 0 ∧ ys.getD i .none = .tuple (k.map PyData.int) ∧ RpL (P ++ O) H (k.map PyData.int) tv ∧ Vals tv its' ∧ s.heap.get? b = some o ∧ o.cls = .type "tuple" ∧ o.data = .seq its'.toArray n := fun i hi => by
            obtain ⟨k, ek, hk0⟩ := hkeys i hi
            have ed := kT_is ek
            obtain ⟨v, ev, rvv⟩ := l.get (i := i) (d := ys[i]) (by simp [hi])
            have hyi : ys.getD i .none = ys[i] := by simp [hi]
            rw [← hyi, ed] at rvv
            cases rvv with
            | @tup b _ tv hzb hb lt =>
              obtain ⟨u, eu, ru⟩ := ri.get ev
              cases ru
              obtain ⟨its', rt', ⟨o, eo, hcl, n, hdt⟩, _⟩ := I.tuple (SqT.of hb)
              exact ⟨b, tv, k, its', o, n, by simp [List.getD_eq_getElem?_getD, eu], ek, hk0, ed, lt, rt', eo, hcl, hdt⟩
          have intsV : ∀ {k : List Int} {tv : List V} {its' : List Value}, RpL (P ++ O) H (k.map PyData.int) tv → Vals tv its' → IntsAre its' k := fun {k tv its'} lt rt' => by
            have : tv = k.map V.int := by
              clear rt'
              induction k generalizing tv with
              | nil => cases lt; rfl
              | cons x r ih =>
                cases lt with
                | cons p lt => cases p; rw [ih lt]; rfl
            subst this
            exact intsAre_of rt'
          refine sorted_by (κ := tuples' true) (key := fun i => kO (ys.getD i .none)) pl.isList (by rw [hlen]; exact hz.1) (fun A' s' Q' E' hA kp h2 hq => ?_) (fun A' s' i j Q' E' hA kp hi hj hq => ?_) ?_
          ·
            obtain ⟨fs, f1, f2, f3⟩ := tups_of (h := s'.heap) its fun v hv => by
              obtain ⟨i, hi, ev⟩ := List.getElem_of_mem hv
              obtain ⟨b, tv, k, its', o, n, eb, ek, hk0, _, lt, rt', eo, hcl, hdt⟩ := item i (by omega)
              have ev' : its.getD i Value.none = v := by simp [hi, ev]
              have hI := intsV lt rt'
              cases hI with
              | nil => exact absurd rfl hk0
              | cons x t hI' => exact ⟨b, o, _, n, x, t, ev'.symm.trans eb, kp b o eo, hcl, hdt, rfl⟩
            refine PySem.W.kat_kind (T := .type "int") f1 (by omega) (fun v hv => ?_) (by rfl) hq
            obtain ⟨i, t, rfl⟩ := f3 v hv
            exact PySem.W.Looks.now
          · obtain ⟨b, tv, k, its', o, n, eb, ek, hk0, _, lt, rt', eo, hcl, hdt⟩ := item i (by omega)
            obtain ⟨b2, tv2, k2, its2, o2, n2, eb2, ek2, _, _, lt2, rt2, eo2, hcl2, hdt2⟩ := item j (by omega)
            rw [eb, eb2]
            have z1 : kO (ys.getD i .none) = k := by show (kT (ys.getD i .none)).getD [] = k; rw [ek]; rfl
            have z2 : kO (ys.getD j .none) = k2 := by show (kT (ys.getD j .none)).getD [] = k2; rw [ek2]; rfl
            have hq' : Q' (ll k k2) s' := by
              have : cK (fun i => kO (ys.getD i .none)) i j = ll k k2 := by show ll (kO (ys.getD i .none)) (kO (ys.getD j .none)) = ll k k2; rw [z1, z2]
              rw [← this]; exact hq
            exact PySem.W.kat_lt (kp b o eo) hdt (kp b2 o2 eo2) hdt2 (lex_ints (X := its'.toArray.size) (Y := its2.toArray.size) 0 (intsV lt rt') (intsV lt2 rt2) (by simp; omega) hq')
          ·
            have fin : ∀ (ds : List D) (vs' : List V) (us' : List Value), RpL (P ++ O) H ds vs' → Vals vs' us' → outOf (fun i => kO (ys.getD i .none)) its = us' → ds = srt ys → EP X pins σ Q (.ref (s.heap.objs.size + 1)) { s with heap := sortedAll s.heap its (outOf (fun i => kO (ys.getD i .none)) its).toArray } := fun ds vs' us' hl' hv' eo ed => by
              subst ed
              rw [eo]
              obtain ⟨ep, hat⟩ := sortedAll_at s.heap its us'.toArray
              have hn : s.heap.objs.size ≤ s.heap.objs.size + 1 := Nat.le_succ _
              refine ⟨.ref (s.heap.objs.size + 1), upd H (s.heap.objs.size + 1) (.lst vs'), I.laid (t' := s.toks) (fun b o e => sortedAll_old e) hn ⟨?_, us', ep, hv', hat⟩, rfl, q _ _ (same_upd (I.hok.fresh hn)) (RE.made hs (I.hok.fresh hn) hl')⟩
              rw [← hl'.length, (srt_perm ys).length_eq, l.length]; exact hzz
            by_cases h2 : its.length < 2
            · refine fin ys ws its l ri (by unfold outOf; rw [if_pos h2]) ?_
              match ys, hlen, h2 with
              | [], _, _ => rfl
              | [_], _, _ => rfl
              | _ :: _ :: _, e, h => simp at e; omega
            · obtain ⟨s1, s2, s3⟩ := sort_ok (key := fun i => kO (ys.getD i .none)) (n := its.length) (by omega)
              have hp : (krun (cK fun i => kO (ys.getD i .none)) (kas_sort its.length)).toList.Perm (List.range its.length) := by simpa using Array.perm_iff_toList_perm.mp s1
              have hlt : ∀ i ∈ (krun (cK fun i => kO (ys.getD i .none)) (kas_sort its.length)).toList, i < ys.length := fun i hi => by
                have := List.mem_range.mp (hp.mem_iff.mp hi)
                omega
              refine fin _ _ _ (l.pick _ hlt) (vals_pick ri _ fun i hi => by rw [← l.length]; exact hlt i hi) (by unfold outOf; rw [if_neg h2]) ?_
              generalize hP : krun (cK fun i => kO (ys.getD i .none)) (kas_sort its.length) = p at *
              refine ord_one ?_ ?_ (srt_ord ys) ?_
              · refine List.Perm.trans ?_ (srt_perm ys).symm
                have := hp.map fun i => ys.getD i .none
                rw [hlen, range_pick] at this
                exact this
              · refine List.pairwise_iff_getElem.mpr fun a b ha hb hab => ?_
                simp only [List.length_map, Array.length_toList] at ha hb
                have := s3 a b (Nat.le_of_lt hab) (by omega)
                unfold Bk at this
                simp only [List.getElem_map, Array.getElem_toList]
                have g : ∀ c (hc : c < p.size), p.getD c 0 = p[c] := fun c hc => by simp [Array.getD, hc]
                rw [g a ha, g b hb] at this
                exact this
              · intro x hx
                obtain ⟨i, hi, rfl⟩ := List.mem_map.mp hx
                obtain ⟨k, ek, _⟩ := hkeys i (hlt i hi)
                rw [ek]; rfl
    · cases e2
  · cases e
end
end L3
set_option Elab.async false
set_option linter.all false
set_option maxRecDepth 100000
set_option maxHeartbeats 4000000
set_option autoImplicit false
namespace L3
open PySem PySem.Spec L2
open PyProof.Rows hiding St
def gPlus := gOr gAdd gCat
def gTimes := gOr gMul gRep
def gLtD := gOr gLt (gC true)
def gLeD := gOr gLe (gC false)
section
variable {X : Cx} {E : XK}
theorem ov_plus : OpV X E (binaryOp .Add) gPlus := ov_add.or ov_cat
theorem ov_times : OpV X E (binaryOp .Mult) gTimes := ov_mul.or ov_rep
theorem ov_ltX (hu : X.A.units + 64 < cLine) : OpV X E (compareOp .Lt) gLtD := ov_lt.or (ov_ltD hu)
theorem ov_leX (hu : X.A.units + 64 < cLine) : OpV X E (compareOp .LtE) gLeD := ov_le.or (ov_leD hu)
end
@[simp] theorem gPlus_int (i j : Int) : gPlus (.d (.int i)) (.d (.int j)) = rt (.d (.int (i + j))) := rfl
@[simp] theorem gAdd_int (i j : Int) : gAdd (.d (.int i)) (.d (.int j)) = rt (.d (.int (i + j))) := rfl
@[simp] theorem gSub_int (i j : Int) : gSub (.d (.int i)) (.d (.int j)) = rt (.d (.int (i - j))) := rfl
@[simp] theorem gLt_int (i j : Int) : gLt (.d (.int i)) (.d (.int j)) = rt (.d (.bool (decide (i < j)))) := rfl
@[simp] theorem gLe_int (i j : Int) : gLe (.d (.int i)) (.d (.int j)) = rt (.d (.bool (decide (i ≤ j)))) := rfl
@[simp] theorem gGt_int (i j : Int) : gGt (.d (.int i)) (.d (.int j)) = rt (.d (.bool (decide (j < i)))) := rfl
@[simp] theorem gGe_int (i j : Int) : gGe (.d (.int i)) (.d (.int j)) = rt (.d (.bool (decide (j ≤ i)))) := rfl
@[simp] theorem gLtD_int (i j : Int) : gLtD (.d (.int i)) (.d (.int j)) = rt (.d (.bool (decide (i < j)))) := rfl
@[simp] theorem gLeD_int (i j : Int) : gLeD (.d (.int i)) (.d (.int j)) = rt (.d (.bool (decide (i ≤ j)))) := rfl
theorem gMod_int {i j : Int} (h : 0 < j) : gMod (.d (.int i)) (.d (.int j)) = rt (.d (.int (i % j))) := by
  unfold gMod gI cMod
  simp [h]
theorem gDiv_int {i j : Int} (h : 0 < j) (h' : j < 1073741824) : gDiv (.d (.int i)) (.d (.int j)) = rt (.d (.int (i / j))) := by
  unfold gDiv gI cDiv
  simp [h, h']
theorem gTimes_int {i j : Int} (h : cMul i j = true) : gTimes (.d (.int i)) (.d (.int j)) = rt (.d (.int (i * j))) := by
  unfold gTimes gOr gMul gI
  simp [h, rt]
theorem bt_len : bootBuiltins "len" = some (.builtin "len") := by decide +kernel
theorem bt_all : bootBuiltins "all" = some (.builtin "all") := by decide +kernel
theorem bt_sorted : bootBuiltins "sorted" = some (.builtin "sorted") := by decide +kernel
theorem bt_isinstance : bootBuiltins "isinstance" = some (.builtin "isinstance") := by decide +kernel
theorem bt_bool : bootBuiltins "bool" = some (.type "bool") := by decide +kernel
theorem bt_list : bootBuiltins "list" = some (.type "list") := by decide +kernel
theorem bt_tuple : bootBuiltins "tuple" = some (.type "tuple") := by decide +kernel
structure Has (P : Program) (w : World) (K : PySem.W.Frag) (mg : Str → Option Value) (base : Heap) (k : Nat) (x : Str) (n : Nat) (fm : List DV → M DV) : Prop where
  ex : ∃ fn fd ps, FnOk P w K mg base CX0 k fn fd ps (sp0 n fm) ∧ mg x = some (.ref fn) ∧ PySem.W.keepIn K (.ref fn) = true ∧ Binds K fd ps []
section
variable {X : Cx} {E : XK} {e : Expr} {es : List Expr} {pos p : Pos} {fa : DS → M DV} {fr : DS → M (List DV)}
theorem px_has {k n : Nat} {x : Str} {fm : List DV → M DV} (F : Has X.prog X.w X.K X.mg X.base k x n fm) (hr : Room k X.A) (ha : PAs X E (e :: es) fr) (hg : Gl X x := by rfl) (hdb : (x == ("__debug__" : Str)) = false := by decide)
    (he : starEach (e :: es) X.env = (false, eval e X.env) :: starEach es X.env := by rfl) (hpl : (backTo pos (starEach es X.env)).any (·.1) = false := by rfl) :
    PX X E (.Call (.Name x p) (e :: es) [] pos) (eCb (gCall n fm) fr) := by
  obtain ⟨fn, fd, ps, h1, h2, h3, h4⟩ := F.ex
  exact px_call h1 hr h2 h3 h4 ha hg hdb he hpl
def tyD : D → Option String
  | .none => some "NoneType"
  | .bool _ => some "bool"
  | .int _ => some "int"
  | .str _ => some "str"
  | .tuple _ => some "tuple"
  | .list _ => some "list"
  | _ => none
def isT (T t : String) : Bool := if T = "int" then t = "int" || t = "bool" else t = T
def kit0 (t T : String) : Option Bool := if (Value.type t == Value.type T) = true then some true else if PySem.W.kitMeta T = true then (fastBuiltinMro t).map (·.contains (.type T)) else none
theorem kit0_eq (K : PySem.W.Frag) (t T : String) : PySem.W.kitOne K (.type t) (.type T) = kit0 t T := rfl
def tys : List String := ["NoneType", "bool", "int", "str", "tuple", "list"]
theorem kit_tab : ∀ T ∈ ["int", "bool", "str", "tuple", "list"], ∀ t ∈ tys, kit0 t T = some (isT T t) := by decide +kernel
theorem tyD_in {d : D} {t : String} (h : tyD d = some t) : t ∈ tys := by
  cases d <;> simp only [tyD] at h <;> first | (cases h; decide) | cases h
def eIs (T : String) (fa : DS → M DV) (δ : DS) : M DV := bd (fa δ) fun x => bd (op ((asQ x).bind tyD)) fun t => rt (.d (.bool (isT T t)))
theorem tyOf_d {Z : List Addr} {H : Hp} {K : PySem.W.Frag} {d : D} {v : V} {t : String} (r : Rp Z H d v) (h : tyD d = some t) : TyOf K H v (.type t) := by
  cases r with
  | none => cases h; exact .non
  | bool b => cases h; exact .bl b
  | int i => cases h; exact .int i
  | str x _ => cases h; exact .str x
  | tup _ ha _ => cases h; exact .tup ha
  | lst _ ha _ => cases h; exact .lst ha
theorem RE.ty {O P : List Addr} {H₀ H : Hp} {K : PySem.W.Frag} {x : DV} {v : V} {t : String} (r : RE O P H₀ H x v) (h : (asQ x).bind tyD = some t) : TyOf K H v (.type t) := by
  cases x with
  | d y => exact tyOf_d (show Rp (P ++ O) H y v from r) h
  | ob C fs => cases h
  | own xs =>
    obtain ⟨a, vs, rfl, _, ha, _⟩ := r
    cases h; exact .lst ha
  | new xs =>
    obtain ⟨a, vs, rfl, _, ha, _⟩ := r
    cases h; exact .lst ha
  | scr K ns => cases h
theorem px_is {T : String} {y : Str} {p2 : Pos} (hT : T ∈ ["int", "bool", "str", "tuple", "list"]) (hm : X.mg "isinstance" = none) (hmy : X.mg y = none) (hv : bootBuiltins y = some (.type T)) (ha : PX X E e fa) (hg : Gl X "isinstance" := by rfl) (hgy : Gl X y := by rfl) (hn : y ≠ "__name__" := by decide) (hdb : (y == ("__debug__" : Str)) = false := by decide)
    (he : starEach [e, .Name y p2] X.env = (false, eval e X.env) :: starEach [.Name y p2] X.env := by rfl) (hpl : (backTo pos (starEach [.Name y p2] X.env)).any (·.1) = false := by rfl) : PX X E (.Call (.Name "isinstance" p) [e, .Name y p2] [] pos) (eIs T fa) := by
  intro pins s σ H Q I h
  refine wpAny_Call_Name_kw (ld_blt I hg hm bt_isinstance ?_)
  refine PyProof.Rows.callWith_builtin1 (PyProof.Rows.spliced_more (thn (ha pins s σ H (fun v H1 => ∃ t, TyOf X.K H1 v (.type t) ∧ t ∈ tys ∧ Q (.bl (isT T t)) H1) I ?_) fun u s1 ⟨v, H1, I1, r1, t, ty, hin, q1⟩ => PyProof.Rows.spliced_more (ld_blt I1 hgy hmy hv ?_ hn hdb)) he) he hpl
  · exact tE_bd (g := fun _ x => bd (op ((asQ x).bind tyD)) fun t => rt (.d (.bool (isT T t)))) h fun O P δ x r v H1 rs rs1 s1 rx e' q' => by
      obtain ⟨t, e1, e2⟩ := bd_op e'
      cases e2
      refine ⟨t, rx.ty e1, ?_, q' _ H1 (Same.refl H1) (.bool _)⟩
      obtain ⟨d, _, hd⟩ := Option.bind_eq_some_iff.mp e1
      exact tyD_in hd
  · exact PyProof.Rows.spliced_none (isinst_ok I1 r1 ty (b := isT T t) (by rw [kit0_eq]; exact kit_tab T hT t hin) fun tk => ⟨.bl _, H1, I1.tok tk, rfl, q1⟩)
end
structure CompSc (sc : Scope) (N : List Str) (k : Nat) (js : List Nat) (N' : List Str) (scope : Scope) : Prop where
  kind : scope.kind = .function
  nocell : ∀ y ∈ scope.names, y.2 ≠ .cell
  loc : ∀ y ∈ scope.names, y.2 = .local → scope.names.lookup y.1 = some .local
  free : ∀ y ∈ scope.names, y.2 = .free → sc.names.lookup y.1 = some .cell ∨ sc.names.lookup y.1 = some .free
  len : N'.length = k + js.length
  at' : ((List.range js.length).all fun i => match js[i]?, N'[k + i]? with
    | some j, some x => decide (N[j]? = some x ∧ (sc.names.lookup x = some .cell ∨ sc.names.lookup x = some .free) ∧ scope.names.lookup x = some .free)
    | _, _ => false) = true
theorem CompSc.fit {X : Cx} {N : List Str} {k : Nat} {js : List Nat} {N' : List Str} {sc scope : Scope} (S : CompSc sc N k js N' scope) (h1 : X.env.scope = sc := by rfl) (h2 : X.N = N := by rfl) : CompFit X k js N' scope := by
  subst h1 h2
  refine ⟨S.kind, S.nocell, S.loc, S.free, S.len, fun i x h hi => ?_⟩
  have hlt : i < N'.length := (List.getElem?_eq_some_iff.mp h).1
  rw [S.len] at hlt
  have q := List.all_eq_true.mp S.at' (i - k) (List.mem_range.mpr (by omega))
  have e : k + (i - k) = i := by omega
  rw [e, h] at q
  cases ej : js[i - k]? with
  | none => rw [ej] at q; cases q
  | some j =>
    rw [ej] at q
    obtain ⟨a, b, c⟩ := of_decide_eq_true q
    exact ⟨j, rfl, a, b, c⟩
theorem sub_name {k : Nat} {js : List Nat} {i : Nat} (hi : i < k) (δ : DS) (d : D) (δ1 : DS) (h : sName i d (subD k js δ) = some δ1) : Sub (subD k js δ) δ1 := by
  cases h
  refine sub_set (.inl ?_)
  unfold subD
  rw [List.getElem?_append_left (by simpa using hi), List.getElem?_replicate, if_pos hi]
theorem Has.mono {P : Program} {w : World} {K : PySem.W.Frag} {mg : Str → Option Value} {base : Heap} {j k : Nat} {x : Str} {n : Nat} {fm : List DV → M DV} (h : Has P w K mg base j x n fm) (hj : j ≤ k) : Has P w K mg base k x n fm := by
  obtain ⟨fn, fd, ps, h1, h2, h3, h4⟩ := h.ex
  exact ⟨fn, fd, ps, h1.mono hj, h2, h3, h4⟩
def Df (K : PySem.W.Frag) (mg : Str → Option Value) (x : Str) (st : Stmt) (ps : List Str) : Prop := ∃ f fd, Fun K x x st f fd ∧ mg x = some (.ref f) ∧ Binds K fd ps []
theorem Df.has {P : Program} {w : World} {K : PySem.W.Frag} {mg : Str → Option Value} {base : Heap} {x : Str} {st : Stmt} {ps : List Str} {k n : Nat} {fm : List DV → M DV} (D : Df K mg x st ps)
    (h : ∀ f fd, Fun K x x st f fd → FnOk P w K mg base CX0 k f fd ps (sp0 n fm)) : Has P w K mg base k x n fm := by
  obtain ⟨f, fd, Fu, hm, hb⟩ := D
  exact ⟨f, fd, ps, h f fd Fu, hm, Fu.kp, hb⟩
theorem hu64 {A : Around} {k : Nat} (hr : Room k A) : A.units + 64 < cLine := by
  have := hr.un
  omega
theorem px_gi {X : Cx} {E : XK} {x : Str} {i : Int} {pos : Pos} (hm : ∃ t, X.mg x = some (.int i t)) (hg : Gl X x := by rfl) (hd : (x == ("__debug__" : Str)) = false := by decide) : PX X E (.Name x pos) (eC (.int i)) := by
  obtain ⟨t, h⟩ := hm
  exact px_gint hg h hd
end L3
set_option Elab.async false
set_option linter.all false
set_option maxRecDepth 100000
set_option maxHeartbeats 4000000
set_option autoImplicit false
namespace L3
open PySem PySem.Spec L2
open PyProof.Rows hiding St
theorem ObjOk.some {P : Program} {w : World} {H : Hp} {h : Heap} {a : Addr} {o : HO} (x : ObjOk P w H h a o) : ∃ u, h.get? a = some u := by
  cases o with
  | lst xs => obtain ⟨_, _, _, _, e⟩ := x; exact ⟨_, e⟩
  | tup xs => obtain ⟨_, _, _, u, e, _⟩ := x; exact ⟨u, e⟩
  | dK kvs => obtain ⟨_, _, _, _, u, _, _, e, _⟩ := x; exact ⟨u, e⟩
  | dT kvs => obtain ⟨_, _, _, _, u, _, _, e, _⟩ := x; exact ⟨u, e⟩
  | set S n => obtain ⟨u, _, _, _, e, _⟩ := x; exact ⟨u, e⟩
  | ins C dx fs => obtain ⟨_, _, _, e, _⟩ := x; exact ⟨_, e⟩
  | own y => exact x
  | xd fs => obtain ⟨_, ⟨u, _, _, e, _⟩, _⟩ := x; exact ⟨u, e⟩
  | rng lo hi => obtain ⟨_, _, _, e⟩ := x; exact ⟨_, e⟩
  | frz ob u => exact ⟨ob, x.1⟩
  | tbl ps => exact ⟨_, x⟩
  | met f y => exact ⟨_, x⟩
  | ext φ => exact x.2.1
structure Fly (P : Program) (w : World) (l : List Env) (s : Shared) (H : Hp) (cls : Value) (x : Addr) (H' : Hp) (B : Heap) (a0 : Value) (s' : Shared) : Prop where
  os : s'.os = s.os
  bare : AllBare s'.gens
  fly : Heap.FlyingW B l x cls a0 s'.heap
  trk : ∀ b u, H' b = some u → ∃ o, B.get? b = some o
  old : ∀ b o, s.heap.get? b = some o → H b = none → b ∉ frs l → B.get? b = some o
  all : ∀ b o, s.heap.get? b = some o → b ∉ frs l → ∃ o', B.get? b = some o'
  un : Un (frs l) [] H H' s.heap s'.heap
  hok : HOk P w H' s'.heap
def CXR (P : Program) (w : World) : CXT := fun l H s E e s' => ∃ x cls dx H' B a0, e = .ref x ∧ Fly P w l s H cls x H' B a0 s' ∧ E cls dx H'
theorem Fly.free {P : Program} {w : World} {l : List Env} {s s' : Shared} {H H' : Hp} {cls a0 : Value} {x : Addr} {B : Heap} (F : Fly P w l s H cls x H' B a0 s') : H' x = none := by
  cases q : H' x with
  | none => rfl
  | some u =>
    obtain ⟨o, e⟩ := F.trk x u q
    rw [F.fly.2.1] at e; cases e
theorem Fly.go {P : Program} {w : World} {l : List Env} {s s' : Shared} {H H' : Hp} {cls a0 : Value} {x : Addr} {B h' : Heap} (F : Fly P w l s H cls x H' B a0 s') (f : Heap.FlyingW B l x cls a0 h') (u : s'.heap.UpToSlots h') : Fly P w l s H cls x H' B a0 { s' with heap := h' } := by
  have fr : ∀ b, b ∈ frs l → ∀ o, s'.heap.get? b = some o → ∃ sl, h'.get? b = some { o with slots := sl } := fun b hb o e => by
    obtain ⟨_, o', e', hd⟩ := F.fly.2.2.1.mem hb
    rw [e] at e'; cases e'
    exact u b o e hd
  refine ⟨F.os, F.bare, f, F.trk, F.old, F.all, ⟨fun b o e n hb _ => f.1 b o (F.old b o e n hb), fun b o e n hb hx => ?_, F.un.free, fun b o e hx => ?_, F.un.tups, F.un.frzs, F.un.tbls⟩, fun b v q => (F.hok b v q).stay (fun c o hc e => ?_) (fun _ q => q) fun _ _ q => q⟩
  · obtain ⟨sl, e1⟩ := F.un.slot b o e n hb hx
    obtain ⟨sl', e2⟩ := fr b hb _ e1
    exact ⟨sl', e2⟩
  · obtain ⟨o', e1⟩ := F.un.there b o e hx
    by_cases hb : b ∈ frs l
    · obtain ⟨sl, e2⟩ := fr b hb o' e1
      exact ⟨_, e2⟩
    · obtain ⟨o2, e2⟩ := F.all b o e hb
      exact ⟨o2, f.1 b o2 e2⟩
  · have ht : ∃ v', H' c = some v' := by
      rcases hc with z | z
      · exact ⟨v, z ▸ q⟩
      · exact ⟨_, z⟩
    obtain ⟨v', hv'⟩ := ht
    obtain ⟨o2, e2⟩ := F.trk c v' hv'
    have := F.fly.1 c o2 e2
    rw [e] at this; cases this
    exact f.1 c _ e2
theorem Fly.inv {X : Cx} {pins : List (Addr × Obj)} {σ : St} {s s' : Shared} {H H' : Hp} {cls a0 : Value} {x : Addr} {B : Heap} (I : Inv X pins σ H s) (F : Fly X.prog X.w X.stack s H cls x H' B a0 s') : Inv X pins σ H' s' :=
  I.call' (ch := []) F.os F.un F.hok F.bare fun b hb => absurd hb (by simp)
theorem xe_made {P : Program} {w : World} {K : PySem.W.Frag} {mg : Str → Option Value} {base : Heap} {N : List Str} {qual : Str} {scope : Scope} {f : Addr} {cd : Value} {A : Around} {outer : List Env} {s0 s : Shared} {H0 H : Hp} {E : XK} {pins : List (Addr × Obj)} {σ : St} {h1 : Heap} {e : Addr} {cls : Value} {vs : List Value}
    (I : Inv (cxOf (CXR P w) P w K mg base N qual scope f cd A outer s0 H0 E) pins σ H s) (hx : Heap.MadeExcOf s.heap h1 e cls vs) (hE : E cls none H) : (cxOf (CXR P w) P w K mg base N qual scope f cd A outer s0 H0 E).xe (.ref e) { s with heap := h1 } := by
  have hl : ∀ b, b ∈ frs (envOfC qual scope s0.heap.objs.size f cd :: outer) ↔ b = s0.heap.objs.size ∨ b ∈ frs outer := fun b => by
    show b ∈ s0.heap.objs.size :: frs outer ↔ _
    exact List.mem_cons
  have nL : ∀ b o, s0.heap.get? b = some o → b ≠ s0.heap.objs.size := fun b o q => Nat.ne_of_lt (Heap.lt_size q)
  have hst := I.stack
  have ff := PySem.W.funFrames_hide (as := frs (envOfC qual scope s0.heap.objs.size f cd :: outer)) hst fun en he a ha => List.mem_filterMap.mpr ⟨en, he, ha⟩
  refine wpAny_leaves_madeW (base := PySem.W.hideAll s.heap (frs (envOfC qual scope s0.heap.objs.size f cd :: outer))) (h := s.heap) I.ok.frames rfl (fun b o q => PySem.W.of_hideAll _ q) ff hx fun h2 t x1 x2 x3 x4 => ?_
  have kB : ∀ b o, s.heap.get? b = some o → b ∉ frs (envOfC qual scope s0.heap.objs.size f cd :: outer) → h2.get? b = some o := fun b o q n => x1.1 b o (PySem.W.hideAll_get _ q n)
  have trk : ∀ b u, H b = some u → b ∉ frs (envOfC qual scope s0.heap.objs.size f cd :: outer) := fun b u q hb => by
    have := I.stkFree b hb
    rw [q] at this; cases this
  have fr : ∀ b o, b ∈ frs outer → s.heap.get? b = some o → ∃ sl, h2.get? b = some { o with slots := sl } := fun b o hb q => by
    obtain ⟨_, o', e', hd⟩ := I.funs.mem hb
    rw [q] at e'; cases e'
    exact x4 b o (hx.keeps b o q) hd
  have out : ∀ b o, s0.heap.get? b = some o → b ∉ frs outer → b ∉ frs (envOfC qual scope s0.heap.objs.size f cd :: outer) := fun b o q n z => by
    rcases (hl b).mp z with z | z
    · exact nL b o q z
    · exact n z
  refine ⟨e, cls, none, H, _, _, rfl, ⟨I.os, I.bare, x1, fun b u q => ?_, fun b o q n hb => ?_, fun b o q hb => ?_, ⟨fun b o q n hb _ => ?_, fun b o q n hb _ => ?_, fun b o q n _ => I.base.free b o q n (by simp [cxOf]), fun b o q _ => ?_, I.base.tups, I.base.frzs, I.base.tbls⟩, fun b u q => (I.hok b u q).stay (fun c o hc r => ?_) (fun _ q => q) fun _ _ q => q⟩, hE⟩
  · obtain ⟨o, r⟩ := ObjOk.some (I.hok b u q)
    exact ⟨o, PySem.W.hideAll_get _ r (trk b u q)⟩
  · exact PySem.W.hideAll_get _ (I.base.keep b o q n hb (by simp [cxOf])) (out b o q hb)
  · obtain ⟨o', r⟩ := I.base.there b o q (by simp [cxOf])
    exact ⟨o', PySem.W.hideAll_get _ r (out b o q hb)⟩
  · exact kB b o (I.base.keep b o q n hb (by simp [cxOf])) (out b o q hb)
  · obtain ⟨sl, r⟩ := I.base.slot b o q n hb (by simp [cxOf])
    obtain ⟨sl', r'⟩ := fr b _ hb r
    exact ⟨sl', r'⟩
  · obtain ⟨o', r⟩ := I.base.there b o q (by simp [cxOf])
    by_cases hb : b ∈ frs outer
    · obtain ⟨sl, r'⟩ := fr b o' hb r
      exact ⟨_, r'⟩
    · exact ⟨o', kB b o' r (out b o q hb)⟩
  · have ht : ∃ v, H c = some v := by
      rcases hc with z | z
      · exact ⟨u, z ▸ q⟩
      · exact ⟨_, z⟩
    obtain ⟨v, hv⟩ := ht
    exact kB c o r (trk c v hv)
def bmV : List Value := [.type "ValueError", .type "Exception", .type "BaseException", .type "object"]
structure Xc (K : PySem.W.Frag) (mg : Str → Option Value) (x : Str) (C : Addr) : Prop where
  bound : mg x = some (.ref C)
  ex : PySem.W.excIn K C bmV "ValueError.__new__" = true
theorem exc_obj {K : PySem.W.Frag} {h : Heap} {C : Addr} {bmB : List Value} {nw : String} (X : K.In h) (q : PySem.W.excIn K C bmB nw = true) :
    ∃ bm N nm qn bs hdct sn sub ab col dd k0 k1 k2 k3 k5 mN, h.get? C = some (excClassObj nm qn C N bs bm hdct sn sub ab col dd k0 k1 k2 k3 k5 nw) ∧ h.Ns N mN ∧ mN "__init__" = none ∧ OwnTail h bmB bm := by
  unfold PySem.W.excIn at q
  cases ho : K.lookup C with
  | none => rw [ho] at q; cases q
  | some ob =>
    rw [ho] at q
    split at q
    · rename_i dd cd sl eo
      cases eo
      split at q
      · rename_i C' bm k0 k1 k2 k3 n k5 hm hs
        rw [Bool.and_eq_true, Bool.and_eq_true, Bool.and_eq_true, Bool.and_eq_true, Bool.and_eq_true] at q
        obtain ⟨⟨⟨⟨⟨q1, q2⟩, q3⟩, q4⟩, q5⟩, q6⟩ := q
        have q1 := beq_iff_eq.mp q1
        have q2 := beq_iff_eq.mp q2
        have q7 : PySem.W.nsIn K cd.ns "__init__" = some none := beq_iff_eq.mp q6
        obtain ⟨nm, bs, mro, ns, qn, hd, sn, sub, ab, col, del⟩ := cd
        simp only at hm q3 q5 q7
        have q3 : del = false := by simpa using q3
        subst q1 q2 hm q3
        have hsl : sl = #[k0, k1, k2, k3, some (.builtin n), k5] := Array.toList_inj.mp (by rw [hs])
        subst hsl
        refine ⟨bm, ns, nm, qn, bs, hd, sn, sub, ab, col, dd, k0, k1, k2, k3, k5, h.nsMap ns, ?_, ?_, ?_, ?_⟩
        · exact X _ _ ho
        · exact .of_isNs (PySem.W.isNs_of_in X q5)
        · exact PySem.W.nsMap_none_of_in X q5 q7
        · exact PySem.W.tail_of_in X q4
      · cases q
    · cases q
section
variable {X : Cx} {E : XK} {x : Str} {C : Addr} {np cpos pos p2 : Pos} {z : Str} {j : Nat}
def Makes (X : Cx) (E : XK) : Prop := X.A.handled = none ∧ ∀ (pins : List (Addr × Obj)) (σ : St) (H : Hp) (s : Shared) (h1 : Heap) (e : Addr) (cls : Value) (vs : List Value), Inv X pins σ H s → Heap.MadeExcOf s.heap h1 e cls vs → E cls none H → X.xe (.ref e) { s with heap := h1 }
theorem ps_raise (mk : Makes X E) (O : Xc X.K X.mg x C) (hg : Gl X x := by rfl) (hd : (x == ("__debug__" : Str)) = false := by decide) {jj} :
    PS X (.Raise (some (.Call (.Name x np) [.Constant (.str z) jj p2] [] cpos)) none pos) (fun _ _ H => E (.ref C) none H) := by
  intro pins s σ H D I h
  obtain ⟨bm, N, nm, q, bs, hdct, sn, sub, ab, col, dd, k0, k1, k2, k3, k5, mN, hC, hN, hni, T⟩ := exc_obj I.ok.mod.kin O.ex
  refine wpAny_Raise_call_subT (C := C) (nm := nm) (q := q) (N := N) (bs := bs) (bm := bm) (hdct := hdct) (sn := sn) (sub := sub) (ab := ab) (col := col) (dd := dd) (k0 := k0) (k1 := k1) (k2 := k2) (k3 := k3) (k5 := k5) (mN := mN)
    PySem.F.excBase_ValueError (T.hasType PySem.F.excBase_ValueError.hasBase) mk.1 rfl hni (ld_glob I hg O.bound ⟨rfl, ?_⟩ hd)
  have hst : starEach [(.Constant (.str z) jj p2 : Expr)] X.env = (false, eval (.Constant (.str z) jj p2) X.env) :: starEach [] X.env := rfl
  rw [hst]
  refine Calls.evalArgs_plain ?_
  refine Calls.spliced_cons (thn (pe_str (pos := p2) (j := jj) (x := z) pins s σ H (fun _ H1 => H1 = H) I rfl) fun u s1 ⟨v, H1, I1, _, e1⟩ => Calls.spliced_nil ?_)
  subst e1
  refine ⟨rfl, by show 1 ≤ sizeLine; decide, I1.bk _ _ hC, hN.keeps I1.bk, T.keeps I1.bk, fun h1 e hm => mk.2 pins σ H1 s1 h1 e _ _ I1 hm h⟩
end
end L3
set_option Elab.async false
set_option linter.all false
set_option maxRecDepth 100000
set_option maxHeartbeats 4000000
set_option autoImplicit false
namespace L3
open PySem PySem.Spec L2
open PyProof.Rows hiding St
open PySem.W (Looks)
theorem isi_exc {prog : Program} {w : World} {A : Around} {E : Value → Shared → Prop} {s : Shared} {Q : Value → Shared → Prop} {K : PySem.W.Frag} {e C : Addr} {oe : Obj} {c : Value} (he : s.heap.get? e = some oe) (hc : oe.cls = .ref C) (X : K.In s.heap)
    (q : PySem.W.kitOne K (.ref C) c = some true) (h : Q (.bool true) s) : wpAny (model prog w) A (call (.builtin "isinstance") [.ref e, c]) Q E s := by
  refine call_isinstance_of ?_ (by intro z; cases z)
  unfold Builtin.«isinstance.nested»
  have LT : Looks (model prog w) s.heap (typeOf (.ref e)) (.ref C) := hc ▸ (Looks.ld he).andThen .now
  refine wpAny_bind (LT.at ?_)
  by_cases k : (Value.ref C == c) = true
  · rw [if_pos k]
    repeat (first | refine wpAny_pure ?_ | refine wpAny_rule ?_ | refine wpAny_bind ?_)
    exact h
  · rw [if_neg k]
    have q' : PySem.W.kitCls K (.ref C) c = some true := by
      unfold PySem.W.kitOne at q
      rw [if_neg k] at q; exact q
    obtain ⟨hty, his, hsub⟩ := PySem.W.kit_cls (M := model prog w) X q'
    have LI : Looks (model prog w) s.heap (isInstance (.ref e) c) true := LT.andThen hsub
    refine wpAny_bind (hty.at ?_)
    rw [if_pos (by decide)]
    refine wpAny_bind (wpAny_bind (m := isType c) (his.at ?_))
    refine wpAny_bind (m := isInstance (.ref e) c) (LI.at ?_)
    exact wpAny_pure (a := true) (wpAny_pure h)
theorem inv_gone {X : Cx} {pins : List (Addr × Obj)} {σ : St} {H : Hp} {s : Shared} {h' : Heap} {m' : Str → Option Value} {t : Nat} (I : Inv X pins σ H s) (hn : h'.Ns X.env.locals m') (hs : Heap.SameBut X.env.locals s.heap h') :
    Inv X pins (List.replicate σ.length none) H { s with heap := h', toks := t } := by
  have neL : ∀ b o, X.s₀.heap.get? b = some o → b ≠ X.env.locals := fun b o e => Nat.ne_of_lt (Nat.lt_of_lt_of_le (Heap.lt_size e) I.ok.above)
  refine ⟨I.ok, I.os, I.bare, ⟨fun b o e n hb hx => ?_, fun b o e n hb hx => ?_, I.base.free, fun b o e hx => ?_, I.base.tups, I.base.frzs, I.base.tbls⟩, ⟨m', hn, fun i y v _ e2 _ => ?_⟩, fun y c e => ?_, I.free, I.freeC, fun p hp => ?_, fun b o e => (I.hok b o e).stay (fun c u hc q => (hs.2 c ?_).trans q) (fun _ q => q) fun _ _ q => q, by simpa using I.len⟩
  · exact (hs.2 b (neL b o e)).trans (I.base.keep b o e n hb hx)
  · obtain ⟨sl, q⟩ := I.base.slot b o e n hb hx
    exact ⟨sl, (hs.2 b (neL b o e)).trans q⟩
  · obtain ⟨o', q⟩ := I.base.there b o e hx
    exact ⟨o', (hs.2 b (neL b o e)).trans q⟩
  · rw [List.getElem?_replicate] at e2
    split at e2 <;> cases e2
  · obtain ⟨v, z⟩ := I.cell y c e
    exact ⟨v, z.sameBut hs (I.cne y c e)⟩
  · obtain ⟨e, n, ne, nf, d⟩ := I.pin p hp
    exact ⟨(hs.2 p.1 ne).trans e, n, ne, nf, d⟩
  · rintro rfl
    rcases hc with z | z
    · rw [← z, I.free] at e; cases e
    · rw [I.free] at z; cases z
abbrev Cx.tried (X : Cx) (pn : List (Addr × Obj)) (W : Value → Shared → Prop) : Cx := { X with pn := X.pn ++ pn, xe := W }
abbrev Cx.caught (X : Cx) (e : Addr) (pn : List (Addr × Obj)) (W : Value → Shared → Prop) : Cx := { X with A := X.A.mark (some (.ref e)), calm := false, pn := X.pn ++ pn, xe := W }
section
variable {X : Cx} {pins pn : List (Addr × Obj)} {σ : St} {H : Hp} {s : Shared} {W : Value → Shared → Prop} {e : Addr}
theorem inv_tried (I : Inv X pins σ H s) (W : Value → Shared → Prop) : Inv (Cx.tried X pins W) [] σ H s :=
  ⟨⟨I.ok.mod, I.ok.kind, I.ok.glob, I.ok.blt, I.ok.above, I.ok.inj, I.ok.has, I.ok.cab, I.ok.hd, I.ok.frames, I.ok.stk, I.ok.exf, I.ok.bs, I.ok.bsz, I.ok.noex, I.ok.exfs, I.ok.funs, I.ok.frf⟩,
    I.os, I.bare, I.base, I.loc, I.cell, I.free, I.freeC, fun p hp => I.pin p (by simpa using hp), I.hok, I.len⟩
theorem inv_untried {pins' : List (Addr × Obj)} (I : Inv (Cx.tried X pn W) pins' σ H s) : Inv X pn σ H s :=
  ⟨⟨I.ok.mod, I.ok.kind, I.ok.glob, I.ok.blt, I.ok.above, I.ok.inj, I.ok.has, I.ok.cab, I.ok.hd, I.ok.frames, I.ok.stk, I.ok.exf, I.ok.bs, I.ok.bsz, I.ok.noex, I.ok.exfs, I.ok.funs, I.ok.frf⟩,
    I.os, I.bare, I.base, I.loc, I.cell, I.free, I.freeC, fun p hp => I.pin p (List.mem_append_left _ hp), I.hok, I.len⟩
theorem sp_untried {pins' : List (Addr × Obj)} {D : Ends} {f : Flow} {s' : Shared} (h : SP (Cx.tried X pn W) pins' D f s') : SP X pn D f s' := by
  cases f with
  | next => obtain ⟨σ', H', I, q⟩ := h; exact ⟨σ', H', inv_untried I, q⟩
  | brk => obtain ⟨σ', H', I, q⟩ := h; exact ⟨σ', H', inv_untried I, q⟩
  | cont => obtain ⟨σ', H', I, q⟩ := h; exact ⟨σ', H', inv_untried I, q⟩
  | ret u => obtain ⟨v, σ', H', I, r, q⟩ := h; exact ⟨v, σ', H', inv_untried I, r, q⟩
theorem inv_caught (I : Inv X pins σ H s) (W : Value → Shared → Prop) (e : Addr) (hm : (X.A.mark (some (.ref e))).frames = X.A.frames := by rfl) : Inv (Cx.caught X e pins W) [] σ H s :=
  ⟨⟨I.ok.mod, I.ok.kind, I.ok.glob, I.ok.blt, I.ok.above, I.ok.inj, I.ok.has, I.ok.cab, (fun z => nomatch z), hm.trans I.ok.frames, I.ok.stk, I.ok.exf, I.ok.bs, I.ok.bsz, I.ok.noex, I.ok.exfs, I.ok.funs, I.ok.frf⟩,
    I.os, I.bare, I.base, I.loc, I.cell, I.free, I.freeC, fun p hp => I.pin p (by simpa using hp), I.hok, I.len⟩
theorem inv_uncaught {p : Addr × Obj} {pins' : List (Addr × Obj)} (ok : X.Ok) (I : Inv (Cx.caught X e (p :: pn) W) pins' σ H s) : Inv X pn σ H s :=
  ⟨ok, I.os, I.bare, I.base, I.loc, I.cell, I.free, I.freeC, fun p hp => I.pin p (List.mem_append_left _ (by
    show p ∈ X.pn ++ _ :: pn
    rcases List.mem_append.mp hp with z | z
    · exact List.mem_append_left _ z
    · exact List.mem_append_right _ (List.mem_cons_of_mem _ z))), I.hok, I.len⟩
end
def fTry (F : DS → M Out) (C : Addr) (k : Bool) (δ : DS) : M Out := match F δ with
  | some (.ok o) => some (.ok o)
  | some (.error c) => if c = .ref C then rt (.rt (.d (.bool k))) else none
  | none => none
section
variable {X : Cx} {E : XK} {body : List Stmt} {F : DS → M Out} {cn n : Str} {C : Addr} {i : Nat} {ex : Expr} {np hpos rpos pos : Pos} {k : Bool}
theorem st_try (O : Xc X.K X.mg cn C) (hN : X.N.Nodup) (hb : ∀ pn W E', Passes (CXR X.prog X.w) (Cx.tried X pn W) E' → PSd (Cx.tried X pn W) E' body F)
    (hs : ∀ e pn W oe, oe.cls = .ref C → (e, oe) ∈ pn → PE (Cx.caught X e pn W) ex (fun σ H Q => σ[i]? = some (some (.ref e)) ∧ Q (.bl k) H))
    (hst : X.stack = X.env :: X.outer := by rfl) (hfm : X.env.frame = some X.env.locals := by rfl) (hg : Gl X cn := by rfl) (hi : X.N[i]? = some n := by rfl) (hloc : X.env.scope.names.lookup n = some .local := by rfl) (hfn : X.fn n = true := by rfl) (hd : (cn == ("__debug__" : Str)) = false := by decide) :
    PSt X E (.Try body [.ExceptHandler (some (.Name cn np)) (some n) [.Return (some ex) rpos] hpos] [] [] pos) (fTry F C k) := by
  intro pins s σ H T I q
  obtain ⟨O', P, δ, r, rs, e, q⟩ := q
  refine wpAny_Try_except ?_
  have pass : Passes (CXR X.prog X.w) (Cx.tried X pins fun e s₁ => wpAny (model X.prog X.w) X.A (noteFrame e X.env) (fun _ s₂ => wpAny (model X.prog X.w) X.A (setFlight e none) (fun _ s₃ =>
      wpAny (model X.prog X.w) X.A (handleBy e X.env [.ExceptHandler (some (.Name cn np)) (some n) [.Return (some ex) rpos] hpos]) (SP X pins T) X.xe s₃) X.xe s₂) X.xe s₁) (fun cls _ H' => cls = .ref C ∧ T.rt (.bl k) H') := by
    intro pins' σ' H1 s1 e s' I1 cx
    obtain ⟨x, cls, dx, H', B, a0, rfl, Fl, rfl, hT⟩ := cx
    have Fl : Fly X.prog X.w X.stack s1 H1 (.ref C) x H' B a0 s' := Fl
    have fr : X.A.frames = some (X.env :: X.outer) := by rw [← hst]; exact I.ok.frames
    refine wpAny_looks_onW (L := X.env.locals) fr hfm (hst ▸ Fl.fly) fun h4 hheld sm4 => ?_
    refine wpAny_landsW hheld fun h5 fl5 sm5 => ?_
    have F5 := Fl.go (hst.symm ▸ fl5) (sm4.trans sm5)
    have I5 : Inv X pins σ' H' { s' with heap := h5 } := inv_untried (Fly.inv I1 F5)
    obtain ⟨ob, hob, hobc⟩ := fl5.there
    refine wpAny_handleBy_cons (codeAny_handlers_test (ld_glob (X := Cx.caught X x pins X.xe) (inv_caught I5 X.xe x) hg O.bound ?_ hd)) (by intro z; cases z)
    obtain ⟨bm, N, nm, qn, bs, hdct, sn, sub, ab, col, dd, k0, k1, k2, k3, k5, mN, hC, hN', hni, Tl⟩ := exc_obj I5.ok.mod.kin O.ex
    refine wpAny_excMatches_sub_self (I5.bk _ _ hC) hob hobc (Tl.hasType PySem.F.excBase_ValueError.hasBase) (codeAny_handlers_suite_as ?_)
    refine lands_againW fl5 fun h6 fl6 sm6 => ?_
    have F6 := F5.go (hst.symm ▸ fl6) sm6
    have I6 : Inv X pins σ' H' { s' with heap := h6 } := inv_untried (Fly.inv I1 F6)
    obtain ⟨oe, vs, he, hec, hed, _⟩ := fl6.first
    have nfr : ∀ b, b ∈ frs X.stack → x ≠ b := fun b hbm z => by
      obtain ⟨_, o', e', hdd⟩ := I6.stack.mem hbm
      have e'' : h6.get? b = some o' := e'
      rw [← z, he] at e''
      cases e''
      exact hdd vs hed
    have I6' : Inv X ((x, oe) :: pins) σ' H' { s' with heap := h6 } := I6.pins_of fun p hp => by
      rcases List.mem_cons.mp hp with z | z
      · subst z
        refine ⟨he, Fl.free, fun z => nfr X.env.locals ?_ z, fun z => nfr x ?_ rfl, fun v z => ?_⟩
        · rw [hst]
          show X.env.locals ∈ frs (X.env :: X.outer)
          unfold frs
          rw [List.filterMap_cons, hfm]
          exact List.mem_cons_self
        · rw [hst]
          show x ∈ frs (X.env :: X.outer)
          unfold frs
          rw [List.filterMap_cons, hfm]
          exact List.mem_cons_of_mem _ z
        · rw [hed] at z; cases z
      · exact I6.pin p (List.mem_append_right _ z)
    refine store_ok (X := Cx.caught X x ((x, oe) :: pins) fun _ _ => False) (inv_caught I6' _ x) hN hi (.inl hloc) (v := .ref x) rfl (fun s7 I8 => ?_) (.inl hfn)
    have hlen : i < σ'.length := by rw [I6.len]; exact (List.getElem?_eq_some_iff.mp hi).1
    refine wpAny_mono (pss_one (ps_ret (hs x _ _ oe hec List.mem_cons_self)) [] s7 _ H' { nx := fun _ _ => False, rt := fun v H2 => v = .bl k ∧ H2 = H' } I8 ⟨by rw [List.getElem?_set_self hlen], rfl, rfl⟩) (fun f s8 h8 => ?_) fun _ _ z => z.elim
    cases f with
    | next => obtain ⟨_, _, _, z⟩ := h8; exact z.elim
    | brk => obtain ⟨_, _, _, z⟩ := h8; exact z.elim
    | cont => obtain ⟨_, _, _, z⟩ := h8; exact z.elim
    | ret u =>
      obtain ⟨v, σ2, H2, I9, rv, rfl, rfl⟩ := h8
      have I10 : Inv X pins σ2 H2 s8 := inv_uncaught I.ok I9
      obtain ⟨m, hm, _⟩ := I10.loc
      exact wpAny_nameGoes hloc hm (by rw [I.ok.kind]; rfl) fun h9 m9 hn9 hs9 => ⟨.bl k, _, H2, inv_gone I10 hn9 hs9, rv, hT⟩
  have fin : ∀ r', F δ = some r' → FnS (fun cls _ H' => cls = .ref C ∧ T.rt (.bl k) H') O' P H T r' → wpAny (model X.prog X.w) X.A (execs body X.env) (fun f s1 => match f with | .next => wpAny (model X.prog X.w) X.A (execs [] X.env) (SP X pins T) X.xe s1 | f => SP X pins T f s1) (fun e s₁ => wpAny (model X.prog X.w) X.A (noteFrame e X.env) (fun _ s₂ => wpAny (model X.prog X.w) X.A (setFlight e none) (fun _ s₃ =>
      wpAny (model X.prog X.w) X.A (handleBy e X.env [.ExceptHandler (some (.Name cn np)) (some n) [.Return (some ex) rpos] hpos]) (SP X pins T) X.xe s₃) X.xe s₂) X.xe s₁) s := fun r' e' q' => by
    refine wpAny_mono (hb pins _ _ pass [] s σ H T (inv_tried I _) ⟨O', P, δ, r', rs, e', q'⟩) (fun f s1 h => ?_) fun _ _ z => z
    have h' := sp_untried h
    cases f with
    | next => exact wpAny_execs_nil h'
    | brk => exact h'
    | cont => exact h'
    | ret u => exact h'
  unfold fTry at e
  split at e
  · rename_i o e'
    cases e
    refine fin (.ok o) e' ?_
    cases o <;> exact q
  · rename_i c e'
    split at e
    · rename_i hc
      cases e
      refine fin (.error c) e' fun dx H' P' kp => ⟨hc, ?_⟩
      have kp0 : Kp P H [] H' := ⟨kp.keep, fun a ha => nomatch ha⟩
      refine q (.bl k) H' H' [] kp0 (Same.refl H') (fun a ha => ?_) (fun a ha => nomatch ha) (.bool k)
      obtain ⟨o, eo⟩ := rs.dom a (List.mem_append_right _ (by simpa using ha))
      exact ⟨o, kp.keep a o (fun z => rs.apart a z (by simpa using ha)) eo⟩
    · cases e
  · cases e
end
end L3
set_option Elab.async false
set_option linter.all false
set_option maxRecDepth 100000
set_option maxHeartbeats 4000000
set_option autoImplicit false
namespace L3
open PySem PySem.Spec L2
open PyProof.Rows hiding St
section
variable {X : Cx} {e C : Addr} {oe : Obj} {i : Nat} {n y : Str} {p p1 p2 pos : Pos} {c : Value}
def tEx (i : Nat) (e : Addr) (k : Bool) : TE := fun σ H Q => σ[i]? = some (some (.ref e)) ∧ Q (.bl k) H
theorem pe_isX (hp : (e, oe) ∈ X.pn) (hc : oe.cls = .ref C) (q : PySem.W.kitOne X.K (.ref C) c = some true) (hm : X.mg "isinstance" = none) (hn : PE X (.Name n p1) (tVar i))
    (hy : ∀ (pins : List (Addr × Obj)) (s : Shared) (σ : St) (H : Hp) (Q : Value → Shared → Prop), Inv X pins σ H s → Q c s → wpAny (model X.prog X.w) X.A (eval (.Name y p2) X.env) Q X.xe s) (hg : Gl X "isinstance" := by rfl)
    (he : starEach [.Name n p1, .Name y p2] X.env = (false, eval (.Name n p1) X.env) :: starEach [.Name y p2] X.env := by rfl) (he2 : starEach [(.Name y p2 : Expr)] X.env = (false, eval (.Name y p2) X.env) :: starEach [] X.env := by rfl)
    (hpl : (backTo pos (starEach [.Name y p2] X.env)).any (·.1) = false := by rfl) : PE X (.Call (.Name "isinstance" p) [.Name n p1, .Name y p2] [] pos) (tEx i e true) := by
  intro pins s σ H Q I h
  refine wpAny_Call_Name_kw (ld_blt I hg hm bt_isinstance ?_)
  refine PyProof.Rows.callWith_builtin1 (PyProof.Rows.spliced_more (thn (hn pins s σ H (fun v H1 => v = .ref e ∧ H1 = H) I ⟨.ref e, h.1, rfl, rfl⟩) fun u s1 ⟨v, H1, I1, r1, ev, eH⟩ => PyProof.Rows.spliced_more (hy pins s1 σ H1 _ I1 ?_) he2) he) he hpl
  subst ev eH
  cases r1
  refine PyProof.Rows.spliced_none ?_
  obtain ⟨g, _⟩ := I1.pin _ (List.mem_append_left _ hp)
  exact isi_exc (K := X.K) g hc I1.kIn q ⟨.bl true, H1, I1, rfl, h.2⟩
theorem pe_isO {D : Addr} (hp : (e, oe) ∈ X.pn) (hc : oe.cls = .ref C) (q : PySem.W.kitOne X.K (.ref C) (.ref D) = some true) (hm : X.mg "isinstance" = none) (hmy : X.mg y = some (.ref D)) (hn : PE X (.Name n p1) (tVar i)) (hg : Gl X "isinstance" := by rfl) (hgy : Gl X y := by rfl) (hd : (y == ("__debug__" : Str)) = false := by decide)
    (he : starEach [.Name n p1, .Name y p2] X.env = (false, eval (.Name n p1) X.env) :: starEach [.Name y p2] X.env := by rfl) (he2 : starEach [(.Name y p2 : Expr)] X.env = (false, eval (.Name y p2) X.env) :: starEach [] X.env := by rfl)
    (hpl : (backTo pos (starEach [.Name y p2] X.env)).any (·.1) = false := by rfl) : PE X (.Call (.Name "isinstance" p) [.Name n p1, .Name y p2] [] pos) (tEx i e true) :=
  pe_isX hp hc q hm hn (fun _ _ _ _ _ I h => ld_glob I hgy hmy h hd) hg he he2 hpl
theorem passR0 {P : Program} {w : World} : Passes (CXR P w) X E0 := fun _ _ _ _ _ _ _ ⟨_, _, _, _, _, _, _, _, h⟩ => h.elim
end
def spI (C CB : Addr) (good : Int → Int → Bool) (f1 f2 : Str) : Sp := fun vs H Q E => ∃ p dx m c, vs = [.ref p, .int m, .int c] ∧ H p = some (.ins C dx []) ∧
  ∀ H1, Same H H1 → if good m c = true then Q .non (upd (upd H1 p (.ins C dx (putF f1 (.int m) []))) p (.ins C dx (putF f2 (.int c) (putF f1 (.int m) [])))) else E (.ref CB) none H1
structure Hs (P : Program) (w : World) (K : PySem.W.Frag) (mg : Str → Option Value) (base : Heap) (x : Str) (C CB : Addr) (good : Int → Int → Bool) (f1 f2 : Str) : Prop where
  ex : ∃ f fd ps, Mk K C f ∧ FnOk P w K mg base (CXR P w) 1 f fd ps (spI C CB good f1 f2) ∧ Binds K fd ps [] ∧ mg x = some (.ref C)
def mkH (C CB : Addr) (good : Int → Int → Bool) (f1 f2 : Str) (xs : List DV) : M DV := match xs with
  | [.d (.int m), .d (.int c)] => if good m c = true then rt (.ob C [(f1, .int m), (f2, .int c)]) else some (.error (.ref CB))
  | _ => none
theorem putF2 {f1 f2 : Str} (h : f1 ≠ f2) (v u : V) : putF f2 u (putF f1 v []) = [(f1, v), (f2, u)] := by
  show (if f1 = f2 then _ else _) = _
  rw [if_neg h]; rfl
section
variable {X : Cx} {E : XK} {e : Expr} {es : List Expr} {pos p : Pos} {fr : DS → M (List DV)}
theorem px_make {x : Str} {C CB : Addr} {good : Int → Int → Bool} {f1 f2 : Str} (h : Hs X.prog X.w X.K X.mg X.base x C CB good f1 f2) (hf : f1 ≠ f2) (hr : Room 2 X.A) (pass : Passes (CXR X.prog X.w) X E) (ha : PAs X E (e :: es) fr) (hg : Gl X x := by rfl) (hdb : (x == ("__debug__" : Str)) = false := by decide)
    (he : starEach (e :: es) X.env = (false, eval e X.env) :: starEach es X.env := by rfl) (hpl : (backTo pos (starEach es X.env)).any (·.1) = false := by rfl) : PX X E (.Call (.Name x p) (e :: es) [] pos) (eCb (mkH C CB good f1 f2) fr) := by
  obtain ⟨f, fd, ps, hM, hF, hb, hm⟩ := h.ex
  refine PE.mono (pe_make hM hF hr hg hm hb .nil pass ha hdb he hpl) fun σ H Q q => tA_bd (g := fun _ => mkH C CB good f1 f2) q fun O P δ xs r vs H1 rs rs1 s1 rx e q => ?_
  unfold mkH at e
  split at e
  · rename_i m c
    cases rx with
    | cons r1 rr =>
      cases rr with
      | cons r2 rr =>
        cases rr
        cases r1
        cases r2
        intro x dx nx ndx ne
        refine ⟨x, dx, m, c, rfl, upd_same, fun H2 s2 => ?_⟩
        have sH : Same H1 H2 := fun b o q => s2 b o (by rw [upd_ne (ne_of_none q nx), upd_ne (ne_of_none q ndx)]; exact q)
        split at e
        · rename_i hgood
          rw [if_pos hgood]
          cases e
          refine ⟨rfl, q _ _ (fun b o q => ?_) ⟨x, dx, _, rfl, fun z => ?_, upd_same, ?_⟩⟩
          · rw [upd_ne (ne_of_none q nx), upd_ne (ne_of_none q nx)]; exact sH b o q
          · obtain ⟨o, q⟩ := rs1.dom x z
            rw [nx] at q; cases q
          · rw [putF2 hf]
            exact .cons ⟨rfl, .int m⟩ (.cons ⟨rfl, .int c⟩ .nil)
        · rename_i hgood
          rw [if_neg hgood]
          cases e
          exact q none H2 sH
  · cases e
end
end L3
set_option Elab.async false
set_option linter.all false
set_option maxRecDepth 100000
set_option maxHeartbeats 4000000
set_option autoImplicit false
namespace L3
open PySem PySem.Spec L2
open PyProof.Rows hiding St
def spX (n : Nat) (fm : List DV → M DV) : Sp := fun vs H Q E => vs.length = n ∧ ∃ O xs r, (∀ a, a ∈ O → ∃ o, H a = some o) ∧ REs O [] H H xs vs ∧ fm xs = some r ∧ Fn E O [] H H Q r
theorem fnX {P : Program} {w : World} {K : PySem.W.Frag} {mg : Str → Option Value} {base : Heap} {x qual : Str} {st : Stmt} {f : Addr} {fd : FuncData} {N ps : List Str} {k n : Nat} {F : DS → M Out} (Fu : Fun K x qual st f fd) (S : FnScope N ps (defScope st)) (hn : ps.length = n)
    (body : ∀ (cdv : Value) (A : Around) (outer : List Env) (s : Shared) (H : Hp) (E : XK), Room k (A.deeper (envOfC qual (defScope st) s.heap.objs.size f cdv)) →
      PSd (cxOf (CXR P w) P w K mg base N qual (defScope st) f cdv A outer s H E) E (defBody st) F) : FnOk P w K mg base (CXR P w) (k + 1) f fd ps (spX n (mir N F)) := by
  obtain ⟨oc, od, kV, doc, pm, an, cdv, ct, osl, rfl, lk, hcd⟩ := Fu.ex
  refine fn_of lk hcd S (fun vs H Q E h => h.1.trans hn.symm) fun A outer s H vs Q E hr hsp => ⟨_, body cdv A outer s H E hr, ?_⟩
  obtain ⟨_, O, xs, r, dom, rx, e, q⟩ := hsp
  rcases bd_cases e with ⟨o, e1, e2⟩ | ⟨c, e1, e2⟩
  · refine ⟨O, [], dst N xs, .ok o, RS.start dom rx, e1, ?_⟩
    cases o with
    | rt y =>
      cases e2
      intro v H1 H' P' k' s' _ _ ry
      obtain ⟨sH, ry'⟩ := ry.out k' s'
      exact q v H' sH ry'
    | nx δ =>
      cases e2
      intro σ' H' P' k' _
      exact q .non H' (fun b o e => k'.keep b o (by simp) e) .none
    | bk δ => cases e2
    | ct δ => cases e2
  · subst e2
    exact ⟨O, [], dst N xs, .error c, RS.start dom rx, e1, fun dx H' P' k' => q dx H' fun b o e => k'.keep b o (by simp) e⟩
structure HasX (P : Program) (w : World) (K : PySem.W.Frag) (mg : Str → Option Value) (base : Heap) (k : Nat) (x : Str) (n : Nat) (fm : List DV → M DV) : Prop where
  ex : ∃ fn fd ps, FnOk P w K mg base (CXR P w) k fn fd ps (spX n fm) ∧ mg x = some (.ref fn) ∧ PySem.W.keepIn K (.ref fn) = true ∧ Binds K fd ps []
theorem HasX.mono {P : Program} {w : World} {K : PySem.W.Frag} {mg : Str → Option Value} {base : Heap} {j k : Nat} {x : Str} {n : Nat} {fm : List DV → M DV} (h : HasX P w K mg base j x n fm) (hj : j ≤ k) : HasX P w K mg base k x n fm := by
  obtain ⟨fn, fd, ps, h1, h2, h3, h4⟩ := h.ex
  exact ⟨fn, fd, ps, h1.mono hj, h2, h3, h4⟩
theorem Df.hasX {P : Program} {w : World} {K : PySem.W.Frag} {mg : Str → Option Value} {base : Heap} {x : Str} {st : Stmt} {ps : List Str} {k n : Nat} {fm : List DV → M DV} (D : Df K mg x st ps)
    (h : ∀ f fd, Fun K x x st f fd → FnOk P w K mg base (CXR P w) k f fd ps (spX n fm)) : HasX P w K mg base k x n fm := by
  obtain ⟨f, fd, Fu, hm, hb⟩ := D
  exact ⟨f, fd, ps, h f fd Fu, hm, Fu.kp, hb⟩
def gCallX (n : Nat) (fm : List DV → M DV) (xs : List DV) : M DV := bd (op (args xs)) fun ys => if ys.length = n then fm ys else none
section
variable {X : Cx} {E : XK} {e : Expr} {es : List Expr} {pos p np cpos p2 : Pos} {fr : DS → M (List DV)} {x : Str} {C : Addr} {z : Str} {jj : Nat}
theorem px_hasX {k n : Nat} {fm : List DV → M DV} (F : HasX X.prog X.w X.K X.mg X.base k x n fm) (hr : Room k X.A) (pass : Passes (CXR X.prog X.w) X E) (ha : PAs X E (e :: es) fr) (hg : Gl X x := by rfl) (hdb : (x == ("__debug__" : Str)) = false := by decide)
    (he : starEach (e :: es) X.env = (false, eval e X.env) :: starEach es X.env := by rfl) (hpl : (backTo pos (starEach es X.env)).any (·.1) = false := by rfl) :
    PX X E (.Call (.Name x p) (e :: es) [] pos) (eCb (gCallX n fm) fr) := by
  obtain ⟨fn, fd, ps, h1, h2, h3, h4⟩ := F.ex
  refine PE.mono (pe_call h1 hr hg h2 h3 h4 .nil pass ha hdb he hpl) fun σ H Q q => tA_bd (g := fun _ => gCallX n fm) q fun O P δ xs r vs H1 rs rs1 s1 rx e q => ?_
  obtain ⟨ys, e1, e2⟩ := bd_op e
  split at e2
  · rename_i hl
    have ry := REs.hand rs.dom s1 rx e1
    refine ⟨?_, P ++ O, ys, r, fun a ha => ?_, ?_, e2, ?_⟩
    · rw [List.append_nil, ← Paired.length ry]; exact hl
    · obtain ⟨o, e'⟩ := rs.dom a ha
      exact ⟨o, s1 a o e'⟩
    · rw [List.append_nil]; exact ry
    · cases r with
      | ok y => exact fun v H' s2 rv => q v H' s2 (rv.back s1)
      | error c => exact q
  · cases e2
theorem st_raise (mk : Makes X E) (O : Xc X.K X.mg x C) (hg : Gl X x := by rfl) (hd : (x == ("__debug__" : Str)) = false := by decide) :
    PSt X E (.Raise (some (.Call (.Name x np) [.Constant (.str z) jj p2] [] cpos)) none pos) (fun _ => some (.error (.ref C))) := PS.mono (ps_raise mk O hg hd) fun T σ H q => by
  obtain ⟨O', P, δ, r, rs, e, q⟩ := q
  cases e
  exact q none H P .refl
end
theorem makes_fn {P : Program} {w : World} {K : PySem.W.Frag} {mg : Str → Option Value} {base : Heap} {N : List Str} {qual : Str} {scope : Scope} {f : Addr} {cd : Value} {A : Around} {outer : List Env} {s0 : Shared} {H0 : Hp} {E : XK} {k : Nat}
    (hr : Room k (A.deeper (envOfC qual scope s0.heap.objs.size f cd))) : Makes (cxOf (CXR P w) P w K mg base N qual scope f cd A outer s0 H0 E) E := ⟨hr.hd, fun _ _ _ _ _ _ _ _ I hm hE => xe_made I hm hE⟩
end L3
set_option Elab.async false
set_option linter.all false
set_option maxRecDepth 100000
set_option maxHeartbeats 4000000
set_option autoImplicit false
namespace L3
open PySem PySem.Spec L2
open PyProof.Rows hiding St
open PySem.W (Looks)
open Builtin Builtin.ObjectAttr Builtin.Getset_descriptor
def IsX (x D : Addr) (h : Heap) : Prop := ∃ o, h.get? x = some o ∧ o.cls = .ref D
section
variable {prog : Program} {w : World} {A : Around} {E : Value → Shared → Prop} {s : Shared} {K : PySem.W.Frag} {x D : Addr}
theorem IsX.ty {M : Model} {h : Heap} (I : IsX x D h) : Looks M h (typeOf (.ref x)) (.ref D) := by
  obtain ⟨o, e, c⟩ := I
  exact c ▸ (Looks.ld e).andThen .now
end
section
variable {X : Cx} {e C : Addr} {oe : Obj} {i : Nat} {n y : Str} {p p1 p2 pos : Pos} {c : Value} {b : Bool}
end
end L3
set_option Elab.async false
set_option linter.all false
set_option maxRecDepth 100000
set_option maxHeartbeats 4000000
namespace L2
open PySem PySem.Spec PyProof.Rows
section
variable {X : Cx} {k : Nat} {js : List Nat} {N' : List Str} {scope : Scope} {elt tg iter : Expr} {ifs : List Expr} {pos : Pos} {wi : TI} {g : TG} {tc : TT} {te : TE}
theorem comp_use {use : Option (Value → Sem Unit)} {Q' : Value → Shared → Prop} {ip : Pos} (S : CompFit X k js N' scope) (hc : X.calm = true) (hi : PI X tg iter wi)
    (hg : ∀ C s₂ H₂ fp, PG (compCx X N' scope C s₂ H₂ fp) tg g) (hf : ∀ C s₂ H₂ fp, PF (compCx X N' scope C s₂ H₂ fp) ifs tc) (he : ∀ C s₂ H₂ fp, PE (compCx X N' scope C s₂ H₂ fp) elt te)
    {pins : List (Addr × Obj)} {s : Shared} {σ : St} {H : Hp} {Q : VK} (I : Inv X pins σ H s) (h : tComp wi k js g tc te σ H Q)
    (hend : ∀ (D C : Addr) (s4 : Shared) (m : Str → Option Value), s4.heap.Ns C m → X.s₀.heap.objs.size ≤ C → C ≠ X.env.locals → (∀ x c, X.env.cells.lookup x = some c → c ≠ C) → (∀ p ∈ X.pn ++ pins, p.1 ≠ C) →
      (∀ h', Heap.SameBut C s4.heap h' → ∃ H5, Inv X pins σ H5 { s4 with heap := h' } ∧ H5 C = none ∧ Q (.ref D) H5) → compPost (model X.prog X.w) X.A X.xe use Q' (.ref D) C (.ok .next) s4)
    (hs : ∀ x, foldedSetIterable iter X.env x = pure x) :
    wpAny (model X.prog X.w) X.A (comprehension (.ListComp elt [⟨tg, iter, ifs, 0⟩] scope pos) scope X.env ip (newList []) false (eval iter X.env) use) Q' X.xe s := by
  refine wpAny_comprehension_free (use := use) rfl hs (closFor fun y hy hk => I.ok.has y.1 (S.free y hy hk)) S.kind S.loc ?_
  refine thn (hi pins s σ H _ I h) fun v s1 h1 => thn h1 fun itv s₂ h2 => ?_
  obtain ⟨it, fp, tn, J, H₂, rfl, I2, T, st2, f2, W, ⟨m0, w0⟩, turn⟩ := h2
  have lt2 : ∀ b ∈ fp, b < s₂.heap.objs.size := fun b hb => by obtain ⟨o, e, _⟩ := T.obj 0 _ st2 b hb; exact Heap.lt_size e
  refine wpAny_newObj_type (wpAny_newFunctionEnv S.nocell (by intro y hy; simp at hy) (fun h₁ hns₁ hsb₁ => ?_) S.kind)
  dsimp only at hns₁ hsb₁ ⊢
  generalize hH2 : s₂.heap.push { cls := .type "list", dict := none, data := .seq ([] : List Value).toArray } = G at hns₁ hsb₁ ⊢
  have hC : G.objs.size = s₂.heap.objs.size + 1 := by rw [← hH2, Heap.size_push]
  have hDC : s₂.heap.objs.size ≠ G.objs.size := by omega
  have hCle : s₂.heap.objs.size ≤ G.objs.size := by omega
  have old : ∀ b o, s₂.heap.get? b = some o → h₁.get? b = some o := fun b o e => hsb₁.extBut b o (addr_ne e hCle) (Heap.get?_push_of_some _ (hH2 ▸ Heap.get?_push_of_some _ e))
  have hacc : h₁.get? s₂.heap.objs.size = some { cls := .type "list", data := .seq ([] : List Value).toArray } := hsb₁.extBut _ _ hDC (Heap.get?_push_of_some _ (hH2 ▸ Heap.get?_push_size _ rfl))
  have hf2 : ∀ b ∈ fp, FpOk X pins H₂ b ∧ b < s₂.heap.objs.size := fun b hb => ⟨f2 b hb, lt2 b hb⟩
  have I0 : ∀ tk, Inv (compCx X N' scope G.objs.size s₂ H₂ fp) [] (subSt k js σ) H₂ { s₂ with heap := h₁, toks := tk } := fun tk => comp_start I2 S hCle hf2 old hns₁
  generalize hD : s₂.heap.objs.size = D at *
  have hDnone : ∀ {H' : Hp} {s' : Shared} {σ' : St} {pp : List (Addr × Obj)} {o : Obj}, Inv (compCx X N' scope G.objs.size s₂ H₂ fp) (pp ++ [(D, o)]) σ' H' s' → H' D = none ∧ s'.heap.get? D = some o := fun {H' s' σ' pp o} J => by
    have q := J.pin (D, o) (List.mem_append_right _ (List.mem_append_right _ (List.mem_singleton.mpr rfl)))
    exact ⟨q.2.1, q.1⟩
  have hDfs : D ∉ frs X.stack := fun z => by
    obtain ⟨_, o, ho, _⟩ := I2.stack.mem z
    exact addr_ne ho (Nat.le_of_eq hD) rfl
  have hDcell : ∀ x c, (compCx X N' scope G.objs.size s₂ H₂ fp).env.cells.lookup x = some c → c ≠ D := fun x c e z => by
    obtain ⟨v, q⟩ := I2.cell x c (closL_sub (fun d hd => by simp at hd) e)
    exact addr_lt q.lt (Nat.le_of_eq hD) z
  have stat : ∀ {H' : Hp} {pp : List (Addr × Obj)}, (∀ b ∈ fp, H' b = none) → (∀ p ∈ pp, p.1 = D) → ∀ b ∈ fp, FpOk (compCx X N' scope G.objs.size s₂ H₂ fp) pp H' b := fun {H' pp} hn hp b hb => by
    refine ⟨hn b hb, fun z => ?_, fun z => ?_, .inl hb, fun x c e => (hf2 b hb).1.2.2.2.2.1 x c (closL_sub (fun d hd => by simp at hd) e), fun p hp' z => ?_⟩
    · exact addr_lt (lt2 b hb) hCle z
    · rcases List.mem_cons.mp (I2.stkSub b z) with e | e
      · exact (hf2 b hb).1.2.1 e
      · exact (hf2 b hb).1.2.2.1 e
    · have e1 : p.1 = D := hp p (by simpa [compCx] using hp')
      exact addr_lt (lt2 b hb) (Nat.le_refl _) (z.symm.trans e1)
  have pinD : ∀ {σ' : St} {H' : Hp} {s' : Shared} {ys : List Value} {c : Nat}, Inv (compCx X N' scope G.objs.size s₂ H₂ fp) [] σ' H' s' → s'.heap.get? D = some { cls := .type "list", data := .seq ys.toArray c } → H' D = none →
      Inv (compCx X N' scope G.objs.size s₂ H₂ fp) [(D, { cls := .type "list", data := .seq ys.toArray c })] σ' H' s' := fun {σ' H' s' ys c} J e n => J.pins_of fun p hp => by
    have e1 := List.mem_singleton.mp hp
    subst e1
    exact ⟨e, n, hDC, hDfs, fun v z => by cases z⟩
  have loop : ∀ s₃ : Shared, (∃ tk, s₃ = { s₂ with heap := h₁, toks := tk }) → codeAny (model X.prog X.w) X.A (.compLoop (.ListComp elt [⟨tg, iter, ifs, 0⟩] scope pos) 0 (.ref it) (.ref D) (compCx X N' scope G.objs.size s₂ H₂ fp).env)
      (compPost (model X.prog X.w) X.A X.xe use Q' (.ref D) G.objs.size) s₃ := by
    rintro s₃ ⟨tk, rfl⟩
    refine comp_turns (fun n s' => ∃ i σ' H' xs ys c, Inv (compCx X N' scope G.objs.size s₂ H₂ fp) [] σ' H' s' ∧ tn i s'.heap ∧ (∀ b ∈ fp, H' b = none) ∧ H' D = none ∧ s'.heap.get? D = some { cls := .type "list", data := .seq ys.toArray c } ∧ Vals xs ys ∧ W i n σ' H' xs)
      ?_ m0 ⟨0, _, H₂, [], [], 0, I0 tk, T.keep _ _ _ st2 fun b hb o e => old b o e, fun b hb => (f2 b hb).1, I2.hok.fresh (by omega), hacc, .nil, w0⟩
    rintro n s' ⟨i, σ', H', xs, ys, c, J', st', fr', nD, eD, rv, w'⟩
    have J1 := pinD J' eD nD
    rcases turn i n σ' H' xs w' with ⟨stop, hz, fin⟩ | ⟨go, hz, step⟩
    · refine thn (T.done (compCx X N' scope G.objs.size s₂ H₂ fp) rfl rfl rfl hc i _ s' σ' H' _ J1 (stat fr' fun p hp => by rw [List.mem_singleton.mp hp]) st' stop) fun r s4 ⟨hr, J4⟩ => ?_
      subst hr
      obtain ⟨nD4, eD4⟩ := hDnone (pp := []) J4
      obtain ⟨mC, hnC, _⟩ := J4.loc
      refine hend D G.objs.size s4 mC hnC (by have := I2.sz; omega) (fun z => addr_lt (Nat.lt_of_lt_of_le I2.lt (by omega)) (Nat.le_refl G.objs.size) z.symm) (fun x c e z => ?_) (fun p hp z => ?_) fun h' hs' => ?_
      · obtain ⟨v, q⟩ := I2.cell x c e
        exact addr_lt (Nat.lt_of_lt_of_le q.lt (by omega)) (Nat.le_refl G.objs.size) z
      · exact addr_lt (Nat.lt_of_lt_of_le (Heap.lt_size (I2.pin p hp).1) (by omega)) (Nat.le_refl G.objs.size) z
      have keep4 : ∀ b o, b ≠ G.objs.size → s4.heap.get? b = some o → h'.get? b = some o := fun b o hb e => hs'.extBut b o hb e
      have hC4 : H' G.objs.size = none := J4.free
      have hun : Un (frs X.stack) fp H₂ (upd H' D (.lst xs)) s₂.heap h' := by
        have u := J4.base
        have neD : ∀ b o, s₂.heap.get? b = some o → b ≠ D := fun b o e => addr_ne e (Nat.le_of_eq hD)
        have neC : ∀ b o, s₂.heap.get? b = some o → b ≠ G.objs.size := fun b o e => addr_ne e (by rw [hD]; exact hCle)
        have neD' : ∀ b o, H₂ b = some o → b ≠ D := fun b o e => addr_lt (I2.hok.lt e) (Nat.le_of_eq hD)
        refine ⟨fun b o e n hb hx => keep4 b o (neC b o e) (u.keep b o e n hb hx), fun b o e n hb hx => ?_, fun b o e n hx => by rw [upd_ne (neD b o e)]; exact u.free b o e n hx, fun b o e hx => ?_,
          fun b xs e => by rw [upd_ne (neD' b _ e)]; exact u.tups b xs e, fun b o z e => by rw [upd_ne (neD' b _ e)]; exact u.frzs b o z e, fun b ps e => by rw [upd_ne (neD' b _ e)]; exact u.tbls b ps e⟩
        · obtain ⟨sl, q⟩ := u.slot b o e n hb hx
          exact ⟨sl, keep4 b _ (neC b o e) q⟩
        · obtain ⟨o', q⟩ := u.there b o e hx
          exact ⟨o', keep4 b _ (neC b o e) q⟩
      have hok4 : HOk X.prog X.w (upd H' D (.lst xs)) h' := by
        intro b u e
        by_cases hb : b = D
        · subst hb
          rw [upd_same] at e
          cases e
          exact ⟨hz, ys, c, rv, keep4 _ _ hDC eD4⟩
        · rw [upd_ne hb] at e
          have hnD : ∀ a o, H' a = some o → a ≠ D := fun a o e z => by rw [z, nD4] at e; cases e
          refine (J4.hok b u e).stay (fun a v ha q => keep4 a v ?_ q) (fun a q => by rw [upd_ne (hnD a _ q)]; exact q) fun a zs q => by rw [upd_ne (hnD a _ q)]; exact q
          rintro rfl
          rcases ha with z | z
          · rw [← z, hC4] at e; cases e
          · rw [hC4] at z; cases z
      refine ⟨upd H' D (.lst xs), I2.call' (s' := { s4 with heap := h' }) J4.os hun hok4 J4.bare (fun b hb => ?_), by rw [upd_ne (Ne.symm hDC)]; exact hC4, fin D nD4⟩
      exact ⟨(f2 b hb).2.2.2.1, (f2 b hb).2.1, (f2 b hb).2.2.2.2.1, (f2 b hb).2.2.2.2.2⟩
    · refine thn (T.item (compCx X N' scope G.objs.size s₂ H₂ fp) rfl rfl rfl hc i _ s' σ' H' NoX J1 (stat fr' fun p hp => by rw [List.mem_singleton.mp hp]) st' go) fun r s4 ⟨u, hr, h4⟩ => ?_
      subst hr
      refine thn h4 fun _ s5 ⟨x, H5, I5, r5, y5, st5, fr5⟩ => ?_
      have I5' := I5.pinned (stat fr5 fun p hp => by rw [List.mem_singleton.mp hp]) (T.obj _ _ st5)
      refine thn (hg _ _ _ _ _ s5 σ' H5 x u _ I5' r5 (step x H5 y5)) fun _ s6 ⟨σ6, H6, I6, q6⟩ => ?_
      refine thn (hf _ _ _ _ _ s6 σ6 H6 _ I6 q6) fun ok s7 ⟨H7, I7, q7⟩ => ?_
      have back : ∀ {σ8 : St} {H8 : Hp} {s8 : Shared}, Inv (compCx X N' scope G.objs.size s₂ H₂ fp) ([(D, { cls := .type "list", data := .seq ys.toArray c })] ++ pinsAt fp s5.heap) σ8 H8 s8 →
          Inv (compCx X N' scope G.objs.size s₂ H₂ fp) [] σ8 H8 s8 ∧ tn (i + 1) s8.heap ∧ (∀ b ∈ fp, H8 b = none) ∧ H8 D = none ∧ s8.heap.get? D = some { cls := .type "list", data := .seq ys.toArray c } := fun {σ8 H8 s8} J => by
        have pd := J.pin (D, { cls := .type "list", data := .seq ys.toArray c }) (List.mem_append_right _ (List.mem_append_left _ (List.mem_singleton.mpr rfl)))
        have pf : ∀ b ∈ fp, ∀ o, s5.heap.get? b = some o → s8.heap.get? b = some o ∧ H8 b = none := fun b hb o e => by
          have q := J.pin (b, o) (List.mem_append_right _ (List.mem_append_right _ (mem_pinsAt hb e)))
          exact ⟨q.1, q.2.1⟩
        refine ⟨J.pins_of fun p hp => absurd hp (by simp), T.keep _ _ _ st5 fun b hb o e => (pf b hb o e).1, fun b hb => ?_, pd.2.1, pd.1⟩
        obtain ⟨o, e, _⟩ := T.obj _ _ st5 b hb
        exact (pf b hb o e).2
      cases ok with
      | false =>
        simp only [Bool.false_eq_true, if_false] at q7 ⊢
        obtain ⟨m', hm, w7⟩ := q7
        obtain ⟨b1, b2, b3, b4, b5⟩ := back I7
        exact ⟨m', hm, i + 1, σ6, H7, xs, ys, c, b1, b2, b3, b4, b5, rv, w7⟩
      | true =>
        simp only [if_true] at q7 ⊢
        refine thn (he _ _ _ _ _ s7 σ6 H7 _ I7 q7) fun u8 s8 ⟨v8, H8, I8, r8, q8⟩ => ?_
        obtain ⟨m', hm, w8⟩ := q8
        obtain ⟨b1, b2, b3, b4, b5⟩ := back I8
        refine append_at b5 (fun h9 hs9 e9 => ?_) (by rw [List.size_toArray, ← rv.length]; exact Nat.le_of_lt hz)
        have I9 : Inv (compCx X N' scope G.objs.size s₂ H₂ fp) [] σ6 H8 { s8 with heap := h9 } := b1.turned (t' := s8.toks) (it := D) (fun b o hb e => (hs9.2 b hb).trans e) b4 hDC (.inr (by show s₂.heap.objs.size ≤ D; omega)) hDcell fun p hp => absurd (show p ∈ ([] : List (Addr × Obj)) from hp) (by simp)
        refine ⟨m', hm, i + 1, σ6, H8, xs ++ [v8], ys ++ [u8], c + 1, I9, T.keep _ _ _ b2 fun b hb o e => (hs9.2 b ?_).trans e, b3, b4, ?_, Vals.append rv (.cons r8 .nil), w8⟩
        · exact addr_lt (lt2 b hb) (Nat.le_refl _)
        · rw [e9, List.push_toArray]
  exact codeAny_compStart_list (loop _ ⟨_, rfl⟩) (T.self _ 0 _ _ _ (T.keep _ _ _ st2 fun b hb o e => old b o e) (loop _ ⟨_, rfl⟩))
theorem ps_setC {i : Nat} {y : Str} {py spos : Pos} (S : CompFit X k js N' scope) (hc : X.calm = true) (hN : X.N.Nodup) (hi : X.N[i]? = some y) (hx : X.env.scope.names.lookup y = some .local) (hit : PI X tg iter wi)
    (hg : ∀ C s₂ H₂ fp, PG (compCx X N' scope C s₂ H₂ fp) tg g) (hf : ∀ C s₂ H₂ fp, PF (compCx X N' scope C s₂ H₂ fp) ifs tc) (he : ∀ C s₂ H₂ fp, PE (compCx X N' scope C s₂ H₂ fp) elt te)
    (hsw : swapsWith (.ListComp elt [⟨tg, iter, ifs, 0⟩] scope pos) (some (.Name y py)) spos.line X.env = pure true) (hs : ∀ x, foldedSetIterable iter X.env x = pure x) :
    PS X (.Assign [.Name y py] (.ListComp elt [⟨tg, iter, ifs, 0⟩] scope pos) spos) (tAsg (tComp wi k js g tc te) (gName i)) := by
  intro pins s σ H D I h
  rw [exec_Assign_Name_used _ _ _ _ hsw]
  refine wpAny_bind (wpAny_standAt (wpAny_bind ?_))
  show wpAny _ X.A (do let _ ← comprehension (.ListComp elt [⟨tg, iter, ifs, 0⟩] scope pos) scope X.env _ (newList []) false (eval iter X.env) (some (assign (.Name y py) X.env))) _ _ s
  refine wpAny_bind (wpAny_mono (comp_use (use := some (assign (.Name y py) X.env)) (Q' := fun _ s' => SP X pins D .next s') S hc hit hg hf he I h (fun Dd C s4 m hn h0 h1 h2 h3 hfin => ?_) hs) (fun _ s' hq => wpAny_pure (wpAny_pure hq)) fun _ _ e => e)
  obtain ⟨H5, I5, n5, q5⟩ := hfin s4.heap (Heap.SameBut.refl _ _)
  show wpAny _ X.A (assign (.Name y py) X.env (.ref Dd)) _ X.xe s4
  refine wpAny_assign_Name (store_ok2 (v := .ref Dd) I5 hN hi (.inl hx) rfl (fun s5 I6 ⟨a, hsb, ha⟩ => ?_) (.inr hx))
  have haC : C ≠ a := fun z => by
    rcases ha with e | e
    · exact h1 (z.trans e)
    · exact h2 y a e z.symm
  refine ⟨m, hn.sameBut hsb haC, fun h' hs' => ⟨σ.set i (some (.ref Dd)), H5, ?_, q5⟩⟩
  exact I6.turned (t' := s5.toks) (it := C) (fun b o hb e => (hs'.2 b hb).trans e) n5 h1 (.inr h0) h2 h3
end
end L2
set_option Elab.async false
set_option linter.all false
set_option maxRecDepth 100000
set_option maxHeartbeats 4000000
set_option autoImplicit false
namespace L3
open PySem PySem.Spec L2
open PyProof.Rows hiding St
section
variable {X : Cx} {E : XK} {k : Nat} {js : List Nat} {N' : List Str} {scope : Scope} {elt tg iter : Expr} {ifs : List Expr} {pos py spos : Pos} {y : Str} {i : Nat} {fi : DS → M (List D)} {g : TG} {sf : D → DS → Option DS} {gc : DS → M Bool} {fe : DS → M DV}
theorem st_setC (S : CompFit X k js N' scope) (hj : js.Nodup) (hc : X.calm = true) (hN : X.N.Nodup) (hit : PIx X E tg iter fi) (ht : TgV g sf) (hsub : ∀ δ d δ1, sf d (subD k js δ) = some δ1 → Sub (subD k js δ) δ1)
    (hg : ∀ C s₂ H₂ fp, PG (compCx X N' scope C s₂ H₂ fp) tg g) (hf : ∀ C s₂ H₂ fp, PF (compCx X N' scope C s₂ H₂ fp) ifs (tBo E0 gc)) (he : ∀ C s₂ H₂ fp, PX (compCx X N' scope C s₂ H₂ fp) E0 elt fe)
    (hi : X.N[i]? = some y := by rfl) (hx : X.env.scope.names.lookup y = some .local := by rfl) (hsw : swapsWith (.ListComp elt [⟨tg, iter, ifs, 0⟩] scope pos) (some (.Name y py)) spos.line X.env = pure true := by rfl)
    (hs : ∀ x, foldedSetIterable iter X.env x = pure x := by intro _; rfl) : PSt X E (.Assign [.Name y py] (.ListComp elt [⟨tg, iter, ifs, 0⟩] scope pos) spos) (fSet i (eComp k js fi sf gc fe)) :=
  PS.mono (ps_setC S hc hN hi hx hit hg hf he hsw hs) fun T σ H q => comp_read hj ht hsub (by
    obtain ⟨O, P, δ, r, rs, e, q⟩ := q
    rcases bd_cases e with ⟨x, e1, e2⟩ | ⟨cx, e1, e2⟩
    · obtain ⟨z, e3, e4⟩ := bd_op e2
      cases e4
      refine ⟨O, P, δ, .ok x, rs, e1, fun v H1 s1 rx => ?_⟩
      obtain ⟨P', kp, rs'⟩ := rs.asg s1 rx e3 i
      exact q _ H1 P' kp rs'
    · subst e2
      exact ⟨O, P, δ, .error cx, rs, e1, fun dx H' s => q dx H' P (.same s)⟩)
end
section
variable {X : Cx} {E : XK}
theorem cat_tup0 {prog : Program} {w : World} {A : Around} {E : Value → Shared → Prop} {s : Shared} {t b : Addr} {ws : List Value} {Q : Value → Shared → Prop} (ht : IsTup s.heap t #[]) (hb : IsTup s.heap b ws.toArray) (h : Q (.ref b) s) : wpAny (model prog w) A (binaryOp .Add (.ref t) (.ref b)) Q E s := by
  obtain ⟨⟨c1, d1, a1, l1⟩, o1, q1, n1, z1⟩ := id ht
  obtain ⟨⟨c2, d2, a2, l2⟩, o2, q2, n2, z2⟩ := id hb
  simp only at q1 z1 q2 z2
  subst q1 z1 q2 z2
  exact concat_meets ⟨_, o1, rfl⟩ ⟨_, o2, rfl⟩ noFill_tuple_add seq_tuple_add PySem.F.slot_tuple_add PySem.F.entry_tuple_add (PySem.F.args_tuple_add_2 _ _) (tuple_addW0 t b #[] ws.toArray n1 n2 d1 d2 l1 l2 rfl) ⟨o1, o2, h⟩
def gCatT (x y : DV) : M DV := match x, y with
  | .d (.tuple xs), .d (.tuple ys) => if xs.length + ys.length ≤ 1000000 then rt (.d (.tuple (xs ++ ys))) else none
  | _, _ => none
theorem ov_catT : OpV X E (binaryOp .Add) gCatT := fun pins s σ O P H₀ H x y v u vv uu r Q I hd hs rx ry ev eu e q => by
  unfold gCatT at e
  split at e
  · rename_i xs ys
    split at e
    · rename_i hz
      cases e
      have rx' : Rp (P ++ O) H (.tuple xs) v := rx
      have ry' : Rp (P ++ O) H (.tuple ys) u := ry
      cases rx' with
      | @tup a _ vs za ha la =>
        cases ry' with
        | @tup b _ us zb hb lb =>
          cases xs with
          | nil =>
            cases la
            cases ev
            cases eu
            obtain ⟨i1, r1, p1, _⟩ := I.tuple (SqT.of ha)
            obtain ⟨i2, r2, p2, _⟩ := I.tuple (SqT.of hb)
            cases r1
            exact cat_tup0 p1 p2 ⟨.ref b, H, I, rfl, q _ H (Same.refl H) (.tup zb hb lb)⟩
          | cons x0 xr =>
            refine op_catT pins s σ H (.ref a) (.ref b) vv uu Q I ev eu ⟨a, b, vs, us, rfl, rfl, SqT.of ha, SqT.of hb, fun z => ?_, line_big (by rw [← la.length, ← lb.length]; exact hz), fun z => ?_, fun z p hp => ?_⟩
            · subst z; cases la
            · subst z
              cases lb
              rw [List.append_nil] at q
              exact q _ H (Same.refl H) (.tup za ha la)
            · exact q _ _ (same_upd hp) (madeT hd hs hp (la.append lb))
    · cases e
  · cases e
def gPlus3 := gOr gPlus gCatT
theorem ov_plus3 : OpV X E (binaryOp .Add) gPlus3 := ov_plus.or ov_catT
def gTupC (xs : List DV) : M DV := match xs with
  | [x] => match asQ x with
    | some (.list ys) => rt (.d (.tuple ys))
    | some (.tuple ys) => rt (.d (.tuple ys))
    | _ => none
  | _ => none
theorem cv_tuple : CallV X E (.type "tuple") gTupC := CallV.of call_tuple_of fun O P H₀ H xs vs r Q hd hs rx e q => by
  unfold gTupC at e
  split at e
  · rename_i x
    cases rx with
    | cons r1 rr =>
      cases rr
      split at e
      · rename_i ys h
        cases e
        obtain ⟨a, ws, rfl, ha, l⟩ := r1.look.1 h
        exact ⟨a, ws, rfl, .inl ⟨SqL.of ha, fun p hp => q _ _ (same_upd hp) (madeT hd hs hp l)⟩⟩
      · rename_i ys h
        cases e
        cases x with
        | d z =>
          cases h
          have r' : Rp (P ++ O) H (.tuple ys) _ := r1
          cases r' with
          | tup hz ha l => exact ⟨_, _, rfl, .inr ⟨SqT.of ha, q _ H (Same.refl H) (.tup hz ha l)⟩⟩
        | ob C fs => cases h
        | own zs => cases h
        | new zs => cases h
        | scr K ns => cases h
      · cases e
  · cases e
def fExt (i : Nat) (f : DS → M DV) (δ : DS) : M Out := match δ[i]? with
  | some (some (.own xs)) => bd (f δ) fun x => match x with
    | .new ys => if xs.length + ys.length ≤ 1000000 then rt (.nx (δ.set i (some (.own (xs ++ ys))))) else none
    | .d (.list ys) => if xs.length + ys.length ≤ 1000000 then rt (.nx (δ.set i (some (.own (xs ++ ys))))) else none
    | _ => none
  | _ => none
variable {e o : Expr} {pos apos cpos : Pos} {f : DS → M DV} {i : Nat}
theorem st_ext (ho : PE X o (tVar i)) (he : PX X E e f)
    (hbase : attributeBase o "extend" X.env (eval o X.env) = eval o X.env := by rfl)
    (hfew : ((backTo cpos (starEach [e] X.env)).all (fun x => !x.1) && (backToKw cpos (keywordEach [] X.env)).all (fun x => x.1.isSome)
      && decide ([e].length + ([] : List Keyword).length + (if ([] : List Keyword).isEmpty then 0 else 1) < 30)) = true := by rfl)
    (hline : (apos.endLine == cpos.line) = true := by rfl) (hs : starEach [e] X.env = (false, eval e X.env) :: starEach [] X.env := by rfl) (hplain : (backTo cpos (starEach [] X.env)).any (·.1) = false := by rfl)
    (hsw : swapsWith (.Call (.Attribute o "extend" apos) [e] [] cpos) none pos.line X.env = pure false := by rfl) : PSt X E (.Expr (.Call (.Attribute o "extend" apos) [e] [] cpos) pos) (fExt i f) :=
  PS.mono (ps_expr (pe_bm PySem.F.plainAttrs_list PySem.F.slot_list_extend PySem.F.type_list_extend mt_extend ho (pa_cons he pa_nil hs) hbase hfew hline hs hplain) hsw) fun T σ H q => by
    obtain ⟨O, P, δ, r, rs, e, q⟩ := q
    unfold fExt at e
    split at e
    · rename_i xs ei
      obtain ⟨v, ev, _, a, vs, rfl, hP, ha, l⟩ := rs.at' i _ ei
      refine ⟨.ref a, ev, .inl ⟨rfl, _, SqL.of ha⟩, ?_⟩
      rcases bd_cases e with ⟨x, e1, e2⟩ | ⟨cx, e1, e2⟩
      · refine ⟨O, P, δ, .ok x, rs, e1, fun u H1 s1 rx => ?_⟩
        have fin : ∀ ys b us, u = .ref b → H1 b = some (.lst us) → RpL (P ++ O) H1 ys us → xs.length + ys.length ≤ 1000000 → r = .ok (.nx (δ.set i (some (.own (xs ++ ys))))) → rExtend (.ref a) [u] H1 fun _ H2 => T.nx σ H2 := fun ys b us eu hb lb hz er => by
          subst eu er
          have l1 := (l.kp (.same s1)).append lb
          obtain ⟨kp, rs'⟩ := (rs.same s1).grow ei ev l1 hP
          exact ⟨a, b, vs, us, rfl, rfl, s1 a _ ha, hb, line_big (by rw [← l.length, ← lb.length]; exact hz), q σ _ P ((Kp.same s1).trans kp) rs'⟩
        split at e2
        · rename_i ys
          split at e2
          · rename_i hz
            cases e2
            obtain ⟨b, us, eu, hb, lb⟩ := rx.list (xs := ys) rfl
            exact fin ys b us eu hb lb hz rfl
          · cases e2
        · rename_i ys
          split at e2
          · rename_i hz
            cases e2
            obtain ⟨b, us, eu, hb, lb⟩ := rx.list (xs := ys) rfl
            exact fin ys b us eu hb lb hz rfl
          · cases e2
        · cases e2
      · subst e2
        exact ⟨O, P, δ, .error cx, rs, e1, fun dx H' s => q dx H' P (.same s)⟩
    · cases e
def isD : DV → D → Bool
  | .d .none, .none => true
  | .d (.bool a), .bool b => a == b
  | _, _ => false
def gIs (neg : Bool) (x y : DV) : M DV := match y with
  | .d .none => match x with
    | .scr _ _ => none
    | _ => rt (.d (.bool (if neg = true then !isD x .none else isD x .none)))
  | .d (.bool b) => match x with
    | .scr _ _ => none
    | _ => rt (.d (.bool (if neg = true then !isD x (.bool b) else isD x (.bool b))))
  | _ => none
theorem isnot_bl {M : Model} {A : Around} {E : Value → Shared → Prop} {s : Shared} {Q : Value → Shared → Prop} {v : Value} {b : Bool} (hv : ∀ i, v ≠ .builtin i) (h : Q (.bool (!(v == .bool b))) s) : wpAny M A (compareOp .IsNot v (.bool b)) Q E s := by
  cases v <;> first | exact wpAny_pure h | exact absurd rfl (hv _)
theorem isD_none {O P : List Addr} {H₀ H : Hp} {x : DV} {v : V} {vv : Value} (r : RE O P H₀ H x v) (e : RelV v vv) : (vv == Value.none) = isD x .none := by
  cases x with
  | d z =>
    have r' : Rp (P ++ O) H z v := r
    cases r' with
    | none => cases e; rfl
    | bool b => cases e; rfl
    | int i => obtain ⟨t, rfl⟩ := e; rfl
    | str x _ => obtain ⟨t, rfl⟩ := e; rfl
    | tup _ _ _ => cases e; rfl
    | lst _ _ _ => cases e; rfl
  | ob C fs => obtain ⟨a, dx, gs, rfl, _⟩ := r; cases e; rfl
  | own xs => obtain ⟨a, vs, rfl, _⟩ := r; cases e; rfl
  | new xs => obtain ⟨a, vs, rfl, _⟩ := r; cases e; rfl
  | scr K ns => obtain ⟨a, rfl, _⟩ := r; cases e; rfl
theorem isD_bool {O P : List Addr} {H₀ H : Hp} {x : DV} {v : V} {vv : Value} (b : Bool) (r : RE O P H₀ H x v) (e : RelV v vv) : (vv == Value.bool b) = isD x (.bool b) := by
  cases x with
  | d z =>
    have r' : Rp (P ++ O) H z v := r
    cases r' with
    | none => cases e; rfl
    | bool c => cases e; cases b <;> cases c <;> rfl
    | int i => obtain ⟨t, rfl⟩ := e; rfl
    | str x _ => obtain ⟨t, rfl⟩ := e; rfl
    | tup _ _ _ => cases e; rfl
    | lst _ _ _ => cases e; rfl
  | ob C fs => obtain ⟨a, dx, gs, rfl, _⟩ := r; cases e; rfl
  | own xs => obtain ⟨a, vs, rfl, _⟩ := r; cases e; rfl
  | new xs => obtain ⟨a, vs, rfl, _⟩ := r; cases e; rfl
  | scr K ns => obtain ⟨a, rfl, _⟩ := r; cases e; rfl
theorem not_blt {O P : List Addr} {H₀ H : Hp} {x : DV} {v : V} {vv : Value} (r : RE O P H₀ H x v) (e : RelV v vv) : ∀ i, vv ≠ .builtin i := by
  intro i z
  subst z
  cases x with
  | d z =>
    have r' : Rp (P ++ O) H z v := r
    cases r' with
    | none => cases e
    | bool c => cases e
    | int i => obtain ⟨t, z⟩ := e; cases z
    | str x _ => obtain ⟨t, z⟩ := e; cases z
    | tup _ _ _ => cases e
    | lst _ _ _ => cases e
  | ob C fs => obtain ⟨a, dx, gs, rfl, _⟩ := r; cases e
  | own xs => obtain ⟨a, vs, rfl, _⟩ := r; cases e
  | new xs => obtain ⟨a, vs, rfl, _⟩ := r; cases e
  | scr K ns => obtain ⟨a, rfl, _⟩ := r; cases e
theorem ov_isnot : OpV X E (compareOp .IsNot) (gIs true) := fun pins s σ O P H₀ H x y v u vv uu r Q I hd hs rx ry ev eu e q => by
  unfold gIs at e
  split at e
  · have ry' : Rp (P ++ O) H .none u := ry
    cases ry'
    cases eu
    refine isnot_none_gen ?_
    rw [isD_none rx ev]
    cases x <;> cases e <;> exact ⟨.bl _, H, I, rfl, q _ H (Same.refl H) (.bool _)⟩
  · rename_i b
    have ry' : Rp (P ++ O) H (.bool b) u := ry
    cases ry'
    cases eu
    refine isnot_bl (not_blt rx ev) ?_
    rw [isD_bool b rx ev]
    cases x <;> cases e <;> exact ⟨.bl _, H, I, rfl, q _ H (Same.refl H) (.bool _)⟩
  · cases e
end
end L3
set_option Elab.async false
set_option linter.all false
set_option maxRecDepth 100000
set_option maxHeartbeats 4000000
set_option autoImplicit false
namespace L3
open PySem PySem.Spec L2
open PyProof.Rows hiding St
def gallopP : Bool → Keyed → Array Keyed → Nat → Nat → Nat → StateT SortSt Sem (Option Nat) := sortPriv% PySem.Builtin.gallop
def Asks (M : Model) (A : Around) (E : Value → Shared → Prop) (s : Shared) (κ : SortKind) (key : Keyed → List Int) (P : Keyed → Prop) : Prop :=
  ∀ (x y : Keyed) (st : SortSt) (Q : Option Bool → SortSt → Prop), kindOf st = κ → P x → P y → Q (some (ll (key x) (key y))) st → wpS M A E s (lt' x y) Q st
def bey (key : Keyed → List Int) (left : Bool) (k x : Keyed) : Bool := if left = true then ll (key x) (key k) else !ll (key k) (key x)
section
variable {M : Model} {A : Around} {E : Value → Shared → Prop} {s : Shared} {κ : SortKind} {key : Keyed → List Int} {P : Keyed → Prop}
theorem wp_elem {arr : Array Keyed} {i : Nat} {x : Keyed} {st : SortSt} {Q : Keyed → SortSt → Prop} (h : arr[i]? = some x) (hq : Q x st) : wpS M A E s (elem' arr i) Q st := by
  rw [elem'_eq, h]; exact wpS_pure hq
theorem wp_gallop (hA : Asks M A E s κ key P) {left : Bool} {k : Keyed} {arr : Array Keyed} {base n hint : Nat} {st : SortSt} {Q : Option Nat → SortSt → Prop} (hk : kindOf st = κ)
    (hP : ∀ i, i < n → ∃ x, arr[base + i]? = some x ∧ P x) (hPk : P k) (hh : hint < n) (b : Nat → Bool) (hb : ∀ i x, i < n → arr[base + i]? = some x → b i = bey key left k x)
    (mono : ∀ i j, i ≤ j → j < n → b j = true → b i = true)
    (h : ∀ r, r ≤ n → (∀ i, i < r → b i = true) → (∀ i, r ≤ i → i < n → b i = false) → Q (some r) st) : wpS M A E s (gallopP left k arr base n hint) Q st := by
  have ask : ∀ (i : Nat) (Q' : Option Bool → SortSt → Prop), i < n → Q' (some (b i)) st → wpS M A E s (do let x ← elem' arr (base + i); if left = true then lt' x k else (do let r ← lt' k x; pure (r.map fun x => !x))) Q' st := fun i Q' hi hq => by
    obtain ⟨x, ex, px⟩ := hP i hi
    rw [hb i x hi ex] at hq
    refine wpS_bind (wp_elem ex ?_)
    cases left with
    | true => exact hA x k st _ hk px hPk hq
    | false => exact wpS_bind (hA k x st _ hk hPk px (wpS_pure hq))
  refine wpS_bind (ask hint _ hh ?_)
  dsimp only
  cases c : b hint with
  | true =>
    rw [if_pos rfl]
    refine wpS_bind (wpS_mono (wpS_forRange (I := fun x c st' => st' = st ∧ ∃ l o, c = (none, l, o) ∧ l < o ∧ x ≤ l ∧ l < n - hint ∧ b (hint + l) = true)
      (Q := fun c st' => st' = st ∧ ∃ l o, c = (none, l, o) ∧ l < o ∧ l < n - hint ∧ b (hint + l) = true ∧ (o ≥ n - hint ∨ (hint + o < n ∧ b (hint + o) = false))) ?_ ?_ ⟨rfl, 0, 1, rfl, by omega, by omega, by omega, c⟩) ?_)
    · rintro x c st' _ hx ⟨rfl, l, o, rfl, h1, h2, h3, h4⟩
      dsimp only
      by_cases ho : o ≥ n - hint
      · rw [if_pos ho]; exact wpS_pure ⟨rfl, l, o, rfl, h1, h3, h4, .inl ho⟩
      · rw [if_neg ho]
        refine wpS_bind (ask (hint + o) _ (by omega) ?_)
        dsimp only
        cases c2 : b (hint + o) with
        | true => exact wpS_pure ⟨rfl, o, 2 * o + 1, rfl, by omega, by omega, by omega, c2⟩
        | false => exact wpS_pure ⟨rfl, l, o, rfl, h1, h3, h4, .inr ⟨by omega, c2⟩⟩
    · rintro c st' ⟨rfl, l, o, rfl, h1, h2, h3, h4⟩
      exact absurd h2 (by omega)
    · rintro c st' ⟨rfl, l, o, rfl, h1, h2, h3, h4⟩
      dsimp only
      have lo1 : ∀ i, i < hint + l + 1 → b i = true := fun i hi => mono i (hint + l) (by omega) (by omega) h3
      have hi1 : ∀ i, hint + min o (n - hint) ≤ i → i < n → b i = false := fun i q1 q2 => by
        rcases h4 with h4 | ⟨h4, h5⟩
        · omega
        · cases c3 : b i with
          | false => rfl
          | true => rw [mono (hint + o) i (by omega) q2 c3] at h5; cases h5
      have lh : hint + l + 1 ≤ hint + min o (n - hint) := by omega
      have hn : hint + min o (n - hint) ≤ n := by omega
      generalize hint + l + 1 = lo at *
      generalize hint + min o (n - hint) = hi at *
      clear h1 h2 h3 h4
      refine wpS_bind (wpS_mono (wpS_forRange (I := fun x c st'' => st'' = st' ∧ ∃ l o, c = (none, l, o) ∧ l ≤ o ∧ o ≤ n ∧ o - l ≤ n - x ∧ (∀ i, i < l → b i = true) ∧ ∀ i, o ≤ i → i < n → b i = false)
        (Q := fun c st'' => st'' = st' ∧ ∃ l, c = (none, l, l) ∧ l ≤ n ∧ (∀ i, i < l → b i = true) ∧ ∀ i, l ≤ i → i < n → b i = false) ?_ ?_ ⟨rfl, lo, hi, rfl, lh, hn, by omega, lo1, hi1⟩) ?_)
      · rintro x c st'' _ hx ⟨rfl, l, o, rfl, q1, q2, q3, q4, q5⟩
        dsimp only
        by_cases hlo : l ≥ o
        · rw [if_pos hlo]
          have : l = o := by omega
          subst this
          exact wpS_pure ⟨rfl, l, rfl, q2, q4, q5⟩
        · rw [if_neg hlo]
          refine wpS_bind (ask (l + (o - l) / 2) _ (by omega) ?_)
          dsimp only
          cases c2 : b (l + (o - l) / 2) with
          | true => exact wpS_pure ⟨rfl, _, _, rfl, by omega, q2, by omega, fun i hi => mono i _ (by omega) (by omega) c2, q5⟩
          | false =>
            refine wpS_pure ⟨rfl, _, _, rfl, by omega, by omega, by omega, q4, fun i u1 u2 => ?_⟩
            cases c3 : b i with
            | false => rfl
            | true => rw [mono _ i u1 u2 c3] at c2; cases c2
      · rintro c st'' ⟨rfl, l, o, rfl, q1, q2, q3, q4, q5⟩
        have : l = o := by omega
        subst this
        exact ⟨rfl, l, rfl, q2, q4, q5⟩
      · rintro c st'' ⟨rfl, l, rfl, q2, q4, q5⟩
        exact wpS_pure (h l q2 q4 q5)
  | false =>
    rw [if_neg (by simp)]
    refine wpS_bind (wpS_mono (wpS_forRange (I := fun x c st' => st' = st ∧ ∃ l o, c = (none, l, o) ∧ l < o ∧ x ≤ l ∧ l ≤ hint ∧ b (hint - l) = false)
      (Q := fun c st' => st' = st ∧ ∃ l o, c = (none, l, o) ∧ l < o ∧ l ≤ hint ∧ b (hint - l) = false ∧ (o ≥ hint + 1 ∨ (o ≤ hint ∧ b (hint - o) = true))) ?_ ?_ ⟨rfl, 0, 1, rfl, by omega, by omega, by omega, c⟩) ?_)
    · rintro x c st' _ hx ⟨rfl, l, o, rfl, h1, h2, h3, h4⟩
      dsimp only
      by_cases ho : o ≥ hint + 1
      · rw [if_pos ho]; exact wpS_pure ⟨rfl, l, o, rfl, h1, h3, h4, .inl ho⟩
      · rw [if_neg ho]
        refine wpS_bind (ask (hint - o) _ (by omega) ?_)
        dsimp only
        cases c2 : b (hint - o) with
        | true => exact wpS_pure ⟨rfl, l, o, rfl, h1, h3, h4, .inr ⟨by omega, c2⟩⟩
        | false => exact wpS_pure ⟨rfl, o, 2 * o + 1, rfl, by omega, by omega, by omega, c2⟩
    · rintro c st' ⟨rfl, l, o, rfl, h1, h2, h3, h4⟩
      exact absurd h2 (by omega)
    · rintro c st' ⟨rfl, l, o, rfl, h1, h2, h3, h4⟩
      dsimp only
      have lo1 : ∀ i, i < hint + 1 - min o (hint + 1) → b i = true := fun i hi => by
        rcases h4 with h4 | ⟨h4, h5⟩
        · omega
        · exact mono i (hint - o) (by omega) (by omega) h5
      have hi1 : ∀ i, hint - l ≤ i → i < n → b i = false := fun i q1 q2 => by
        cases c3 : b i with
        | false => rfl
        | true => rw [mono (hint - l) i (by omega) q2 c3] at h3; cases h3
      have lh : hint + 1 - min o (hint + 1) ≤ hint - l := by omega
      have hn : hint - l ≤ n := by omega
      generalize hint + 1 - min o (hint + 1) = lo at *
      generalize hint - l = hi at *
      clear h1 h2 h3 h4
      refine wpS_bind (wpS_mono (wpS_forRange (I := fun x c st'' => st'' = st' ∧ ∃ l o, c = (none, l, o) ∧ l ≤ o ∧ o ≤ n ∧ o - l ≤ n - x ∧ (∀ i, i < l → b i = true) ∧ ∀ i, o ≤ i → i < n → b i = false)
        (Q := fun c st'' => st'' = st' ∧ ∃ l, c = (none, l, l) ∧ l ≤ n ∧ (∀ i, i < l → b i = true) ∧ ∀ i, l ≤ i → i < n → b i = false) ?_ ?_ ⟨rfl, lo, hi, rfl, lh, hn, by omega, lo1, hi1⟩) ?_)
      · rintro x c st'' _ hx ⟨rfl, l, o, rfl, q1, q2, q3, q4, q5⟩
        dsimp only
        by_cases hlo : l ≥ o
        · rw [if_pos hlo]
          have : l = o := by omega
          subst this
          exact wpS_pure ⟨rfl, l, rfl, q2, q4, q5⟩
        · rw [if_neg hlo]
          refine wpS_bind (ask (l + (o - l) / 2) _ (by omega) ?_)
          dsimp only
          cases c2 : b (l + (o - l) / 2) with
          | true => exact wpS_pure ⟨rfl, _, _, rfl, by omega, q2, by omega, fun i hi => mono i _ (by omega) (by omega) c2, q5⟩
          | false =>
            refine wpS_pure ⟨rfl, _, _, rfl, by omega, by omega, by omega, q4, fun i u1 u2 => ?_⟩
            cases c3 : b i with
            | false => rfl
            | true => rw [mono _ i u1 u2 c3] at c2; cases c2
      · rintro c st'' ⟨rfl, l, o, rfl, q1, q2, q3, q4, q5⟩
        have : l = o := by omega
        subst this
        exact ⟨rfl, l, rfl, q2, q4, q5⟩
      · rintro c st'' ⟨rfl, l, rfl, q2, q4, q5⟩
        exact wpS_pure (h l q2 q4 q5)
end
end L3
set_option Elab.async false
set_option linter.all false
set_option maxRecDepth 100000
set_option maxHeartbeats 4000000
set_option autoImplicit false
namespace L3
open PySem PySem.Spec L2
open PyProof.Rows hiding St
def Le (key : Keyed → List Int) (x y : Keyed) : Prop := ll (key y) (key x) = false
section
variable {key : Keyed → List Int}
theorem Le.refl (x : Keyed) : Le key x x := ll_irr _
theorem Le.trans {x y z : Keyed} (h1 : Le key x y) (h2 : Le key y z) : Le key x z := nl_trans h1 h2
theorem Le.of_lt {x y : Keyed} (h : ll (key x) (key y) = true) : Le key x y := ll_asym h
def SegS (key : Keyed → List Int) (arr : Array Keyed) (lo hi : Nat) : Prop := ∀ i j x y, lo ≤ i → i ≤ j → j < hi → arr[i]? = some x → arr[j]? = some y → Le key x y
theorem segS_all {arr : Array Keyed} : arr.toList.Pairwise (Le key) ↔ SegS key arr 0 arr.size := by
  constructor
  · intro h i j x y _ hij hj ex ey
    rcases Nat.lt_or_ge i j with hlt | hge
    · obtain ⟨hi', rfl⟩ := Array.getElem?_eq_some_iff.mp ex
      obtain ⟨hj', rfl⟩ := Array.getElem?_eq_some_iff.mp ey
      have := List.pairwise_iff_getElem.mp h i j (by simpa using hi') (by simpa using hj') hlt
      simpa using this
    · have : i = j := by omega
      subst this
      rw [ex] at ey; cases ey; exact Le.refl _
  · intro h
    refine List.pairwise_iff_getElem.mpr fun i j hi hj hij => ?_
    have hi' : i < arr.size := by simpa using hi
    have hj' : j < arr.size := by simpa using hj
    exact h i j _ _ (Nat.zero_le _) (Nat.le_of_lt hij) hj' (by simp [hi']) (by simp [hj'])
theorem at_of {arr : Array Keyed} {i : Nat} (h : i < arr.size) : ∃ x, arr[i]? = some x ∧ x ∈ arr.toList := ⟨arr[i], by simp [h], by simp⟩
theorem mem_drop {arr : Array Keyed} {i : Nat} {y : Keyed} (h : y ∈ arr.toList.drop i) : ∃ j, i ≤ j ∧ j < arr.size ∧ arr[j]? = some y := by
  obtain ⟨j, hj, rfl⟩ := List.getElem_of_mem h
  simp at hj
  refine ⟨i + j, by omega, by omega, ?_⟩
  have : i + j < arr.size := by omega
  simp [this]
theorem mem_take {arr : Array Keyed} {i : Nat} {y : Keyed} (h : y ∈ arr.toList.take i) : ∃ j, j < i ∧ j < arr.size ∧ arr[j]? = some y := by
  obtain ⟨j, hj, rfl⟩ := List.getElem_of_mem h
  simp at hj
  refine ⟨j, by omega, by omega, ?_⟩
  have : j < arr.size := by omega
  simp [this]
theorem mem_ext {arr : Array Keyed} {i k : Nat} {y : Keyed} (h : y ∈ (arr.extract i k).toList) : ∃ j, i ≤ j ∧ j < k ∧ j < arr.size ∧ arr[j]? = some y := by
  obtain ⟨j, hj, rfl⟩ := List.getElem_of_mem h
  simp at hj
  refine ⟨i + j, by omega, by omega, by omega, ?_⟩
  have : i + j < arr.size := by omega
  simp [this]
theorem ext_end {arr : Array Keyed} {i : Nat} : (arr.extract i).toList = arr.toList.drop i := by
  rw [Array.toList_extract, List.extract_eq_take_drop]
  exact List.take_of_length_le (by simp)
theorem ext_begin {arr : Array Keyed} {i : Nat} : (arr.extract 0 i).toList = arr.toList.take i := by
  rw [Array.toList_extract, List.extract_eq_take_drop]
  rfl
theorem drop_at {arr : Array Keyed} {i : Nat} {x : Keyed} (h : arr[i]? = some x) : arr.toList.drop i = x :: arr.toList.drop (i + 1) := by
  obtain ⟨hi, rfl⟩ := Array.getElem?_eq_some_iff.mp h
  have hi' : i < arr.toList.length := by simpa using hi
  rw [List.drop_eq_getElem_cons hi']
  simp
theorem take_at {arr : Array Keyed} {i : Nat} {x : Keyed} (h : arr[i]? = some x) : arr.toList.take (i + 1) = arr.toList.take i ++ [x] := by
  obtain ⟨hi, rfl⟩ := Array.getElem?_eq_some_iff.mp h
  have hi' : i < arr.toList.length := by simpa using hi
  rw [List.take_succ_eq_append_getElem hi']
  simp
theorem drop_ext {arr : Array Keyed} {i k : Nat} : arr.toList.drop i = (arr.extract i (i + k)).toList ++ arr.toList.drop (i + k) := by
  rw [Array.toList_extract, List.extract_eq_take_drop, ← List.drop_drop, show i + k - i = k by omega, List.take_append_drop]
theorem take_ext {arr : Array Keyed} {i k : Nat} (h : i ≤ k) : arr.toList.take k = arr.toList.take i ++ (arr.extract i k).toList := by
  rw [Array.toList_extract, List.extract_eq_take_drop]
  conv => lhs; rw [show k = i + (k - i) by omega, List.take_add]
structure MI (key : Keyed → List Int) (la lb o ra rb : List Keyed) : Prop where
  perm : (o ++ (ra ++ rb)).Perm (la ++ lb)
  so : o.Pairwise (Le key)
  sa : ra.Pairwise (Le key)
  sb : rb.Pairwise (Le key)
  oa : ∀ x ∈ o, ∀ y ∈ ra, Le key x y
  ob : ∀ x ∈ o, ∀ y ∈ rb, Le key x y
def MOk (key : Keyed → List Int) (la lb r : List Keyed) : Prop := r.Perm (la ++ lb) ∧ r.Pairwise (Le key)
theorem MI.a {la lb o c ra rb : List Keyed} (h : MI key la lb o (c ++ ra) rb) (hc : ∀ x ∈ c, ∀ y ∈ rb, Le key x y) : MI key la lb (o ++ c) ra rb := by
  obtain ⟨p, so, sa, sb, oa, ob⟩ := h
  obtain ⟨s1, s2, s3⟩ := List.pairwise_append.mp sa
  refine ⟨?_, List.pairwise_append.mpr ⟨so, s1, fun x hx y hy => oa x hx y (List.mem_append_left _ hy)⟩, s2, sb, fun x hx y hy => ?_, fun x hx y hy => ?_⟩
  · simpa using p
  · rcases List.mem_append.mp hx with q | q
    · exact oa x q y (List.mem_append_right _ hy)
    · exact s3 x q y hy
  · rcases List.mem_append.mp hx with q | q
    · exact ob x q y hy
    · exact hc x q y hy
theorem MI.b {la lb o c ra rb : List Keyed} (h : MI key la lb o ra (c ++ rb)) (hc : ∀ x ∈ c, ∀ y ∈ ra, Le key x y) : MI key la lb (o ++ c) ra rb := by
  obtain ⟨p, so, sa, sb, oa, ob⟩ := h
  obtain ⟨s1, s2, s3⟩ := List.pairwise_append.mp sb
  refine ⟨?_, List.pairwise_append.mpr ⟨so, s1, fun x hx y hy => ob x hx y (List.mem_append_left _ hy)⟩, sa, s2, fun x hx y hy => ?_, fun x hx y hy => ?_⟩
  · refine List.Perm.trans ?_ p
    have : (c ++ (ra ++ rb)).Perm (ra ++ (c ++ rb)) := by
      rw [← List.append_assoc, ← List.append_assoc]
      exact List.perm_append_comm.append_right _
    rw [List.append_assoc]
    exact this.append_left o
  · rcases List.mem_append.mp hx with q | q
    · exact oa x q y hy
    · exact hc x q y hy
  · rcases List.mem_append.mp hx with q | q
    · exact ob x q y (List.mem_append_right _ hy)
    · exact s3 x q y hy
theorem MI.ab {la lb o ra rb : List Keyed} (h : MI key la lb o ra rb) (hc : ∀ x ∈ ra, ∀ y ∈ rb, Le key x y) : MOk key la lb (o ++ ra ++ rb) := by
  have h1 : MI key la lb (o ++ ra) [] rb := MI.a (by simpa using h) hc
  have h2 : MI key la lb (o ++ ra ++ rb) [] [] := MI.b (by simpa using h1) (fun _ _ _ hy => nomatch hy)
  exact ⟨by simpa using h2.perm, h2.so⟩
theorem MI.ba {la lb o ra rb : List Keyed} (h : MI key la lb o ra rb) (hc : ∀ x ∈ rb, ∀ y ∈ ra, Le key x y) : MOk key la lb (o ++ rb ++ ra) := by
  have h1 : MI key la lb (o ++ rb) ra [] := MI.b (by simpa using h) hc
  have h2 : MI key la lb (o ++ rb ++ ra) [] [] := MI.a (by simpa using h1) (fun _ _ _ hy => nomatch hy)
  exact ⟨by simpa using h2.perm, h2.so⟩
end
structure Sm (st st' : SortSt) : Prop where
  kind : kindOf st' = kindOf st
  arr : arrOf st' = arrOf st
  pend : pendingOf st' = pendingOf st
  failed : failedOf st' = failedOf st
theorem Sm.refl (st : SortSt) : Sm st st := ⟨rfl, rfl, rfl, rfl⟩
theorem Sm.trans {a b c : SortSt} (h1 : Sm a b) (h2 : Sm b c) : Sm a c := ⟨h2.kind.trans h1.kind, h2.arr.trans h1.arr, h2.pend.trans h1.pend, h2.failed.trans h1.failed⟩
def setGP : Nat → StateT SortSt Sem Unit := sortPriv% PySem.Builtin.setMinGallop
section
variable {M : Model} {A : Around} {E : Value → Shared → Prop} {s : Shared} {κ : SortKind} {key : Keyed → List Int} {P : Keyed → Prop}
theorem wp_setG {st : SortSt} {g : Nat} {Q : Unit → SortSt → Prop} (h : ∀ st', Sm st st' → Q () st') : wpS M A E s (setGP g) Q st := wpS_modify (h _ ⟨rfl, rfl, rfl, rfl⟩)
theorem wp_gallopR (hA : Asks M A E s κ key P) {k : Keyed} {arr : Array Keyed} {base n hint : Nat} {st : SortSt} {Q : Option Nat → SortSt → Prop} (hk : kindOf st = κ) (hPk : P k) (hz : base + n ≤ arr.size)
    (hP : ∀ x ∈ arr.toList, P x) (hs : SegS key arr base (base + n)) (hh : hint < n)
    (h : ∀ r, r ≤ n → (∀ i x, base ≤ i → i < base + r → arr[i]? = some x → Le key x k) → (∀ i x, base + r ≤ i → i < base + n → arr[i]? = some x → ll (key k) (key x) = true) → Q (some r) st) :
    wpS M A E s (gallopP false k arr base n hint) Q st := by
  have get : ∀ i, i < n → arr[base + i]? = some (arr[base + i]?.getD k) := fun i hi => by
    obtain ⟨x, ex, _⟩ := at_of (arr := arr) (i := base + i) (by omega)
    rw [ex]; rfl
  refine wp_gallop hA hk (fun i hi => ?_) hPk hh (fun i => bey key false k (arr[base + i]?.getD k)) (fun i x hi ex => by rw [ex]; rfl) (fun i j hij hj hb => ?_) fun r hr h1 h2 => h r hr (fun i x q1 q2 ex => ?_) (fun i x q1 q2 ex => ?_)
  · obtain ⟨x, ex, mx⟩ := at_of (arr := arr) (i := base + i) (by omega)
    exact ⟨x, ex, hP x mx⟩
  · have hle := hs (base + i) (base + j) _ _ (by omega) (by omega) (by omega) (get i (by omega)) (get j hj)
    show (!ll (key k) (key (arr[base + i]?.getD k))) = true
    have hb' : (!ll (key k) (key (arr[base + j]?.getD k))) = true := hb
    have q : ll (key k) (key (arr[base + j]?.getD k)) = false := by simpa using hb'
    have : ll (key k) (key (arr[base + i]?.getD k)) = false := Le.trans hle q
    rw [this]; rfl
  · have := h1 (i - base) (by omega)
    rw [show base + (i - base) = i by omega, ex] at this
    have t : (!ll (key k) (key x)) = true := this
    exact (by simpa using t : ll (key k) (key x) = false)
  · have := h2 (i - base) (by omega) (by omega)
    rw [show base + (i - base) = i by omega, ex] at this
    have t : (!ll (key k) (key x)) = false := this
    simpa using t
theorem wp_gallopL (hA : Asks M A E s κ key P) {k : Keyed} {arr : Array Keyed} {base n hint : Nat} {st : SortSt} {Q : Option Nat → SortSt → Prop} (hk : kindOf st = κ) (hPk : P k) (hz : base + n ≤ arr.size)
    (hP : ∀ x ∈ arr.toList, P x) (hs : SegS key arr base (base + n)) (hh : hint < n)
    (h : ∀ r, r ≤ n → (∀ i x, base ≤ i → i < base + r → arr[i]? = some x → ll (key x) (key k) = true) → (∀ i x, base + r ≤ i → i < base + n → arr[i]? = some x → Le key k x) → Q (some r) st) :
    wpS M A E s (gallopP true k arr base n hint) Q st := by
  have get : ∀ i, i < n → arr[base + i]? = some (arr[base + i]?.getD k) := fun i hi => by
    obtain ⟨x, ex, _⟩ := at_of (arr := arr) (i := base + i) (by omega)
    rw [ex]; rfl
  refine wp_gallop hA hk (fun i hi => ?_) hPk hh (fun i => bey key true k (arr[base + i]?.getD k)) (fun i x hi ex => by rw [ex]; rfl) (fun i j hij hj hb => ?_) fun r hr h1 h2 => h r hr (fun i x q1 q2 ex => ?_) (fun i x q1 q2 ex => ?_)
  · obtain ⟨x, ex, mx⟩ := at_of (arr := arr) (i := base + i) (by omega)
    exact ⟨x, ex, hP x mx⟩
  · have hle := hs (base + i) (base + j) _ _ (by omega) (by omega) (by omega) (get i (by omega)) (get j hj)
    have hb' : ll (key (arr[base + j]?.getD k)) (key k) = true := hb
    show ll (key (arr[base + i]?.getD k)) (key k) = true
    cases c : ll (key (arr[base + i]?.getD k)) (key k) with
    | true => rfl
    | false =>
      have : ll (key (arr[base + j]?.getD k)) (key k) = false := Le.trans c hle
      rw [this] at hb'; cases hb'
  · have := h1 (i - base) (by omega)
    rw [show base + (i - base) = i by omega, ex] at this
    exact this
  · have := h2 (i - base) (by omega) (by omega)
    rw [show base + (i - base) = i by omega, ex] at this
    exact this
end
end L3
set_option Elab.async false
set_option linter.all false
set_option maxRecDepth 100000
set_option maxHeartbeats 4000000
set_option autoImplicit false
namespace L3
open PySem PySem.Spec L2
open PyProof.Rows hiding St
def mergeLoP : Array Keyed → Array Keyed → StateT SortSt Sem (Array Keyed) := sortPriv% PySem.Builtin.mergeLo
section
variable {M : Model} {A : Around} {E : Value → Shared → Prop} {s : Shared} {κ : SortKind} {key : Keyed → List Int} {P : Keyed → Prop}
structure LoA (key : Keyed → List Int) (a b : Array Keyed) (out : Array Keyed) (ia ib : Nat) : Prop where
  mi : MI key a.toList b.toList out.toList (a.toList.drop ia) (b.toList.drop ib)
  ha : ia + 1 < a.size
  hb : ib < b.size
theorem wp_mergeLo (hA : Asks M A E s κ key P) {a b : Array Keyed} {st : SortSt} {Q : Array Keyed → SortSt → Prop} (hk : kindOf st = κ)
    (pa : ∀ x ∈ a.toList, P x) (pb : ∀ x ∈ b.toList, P x) (za : 0 < a.size) (zb : 0 < b.size) (sa : a.toList.Pairwise (Le key)) (sb : b.toList.Pairwise (Le key))
    (first : ∀ y, b[0]? = some y → ∀ x ∈ a.toList, Le key y x) (last : ∀ z, a[a.size - 1]? = some z → ∀ y ∈ b.toList, Le key y z)
    (h : ∀ r st', Sm st st' → MOk key a.toList b.toList r.toList → Q r st') : wpS M A E s (mergeLoP a b) Q st := by
  have Sa : SegS key a 0 a.size := segS_all.mp sa
  have Sb : SegS key b 0 b.size := segS_all.mp sb
  have doneB : ∀ (out : Array Keyed) (ia ib : Nat), MI key a.toList b.toList out.toList (a.toList.drop ia) (b.toList.drop ib) → (ib = b.size ∨ ia = a.size) → MOk key a.toList b.toList (out ++ a.extract ia ++ b.extract ib).toList := fun out ia ib mi hc => by
    rw [Array.toList_append, Array.toList_append, ext_end, ext_end]
    refine mi.ab fun x hx y hy => ?_
    rcases hc with hc | hc
    · rw [hc, List.drop_of_length_le (by simp)] at hy; cases hy
    · rw [hc, List.drop_of_length_le (by simp)] at hx; cases hx
  have lastA : ∀ (out : Array Keyed) (ia ib : Nat), MI key a.toList b.toList out.toList (a.toList.drop ia) (b.toList.drop ib) → ia + 1 = a.size → MOk key a.toList b.toList (out ++ b.extract ib ++ a.extract ia).toList := fun out ia ib mi hc => by
    rw [Array.toList_append, Array.toList_append, ext_end, ext_end]
    refine mi.ba fun x hx y hy => ?_
    obtain ⟨j, j1, j2, ej⟩ := mem_drop hy
    have : j = a.size - 1 := by omega
    subst this
    exact last y ej x (List.mem_of_mem_drop hx)
  have pushB : ∀ (out : Array Keyed) (ia ib : Nat) (x : Keyed), MI key a.toList b.toList out.toList (a.toList.drop ia) (b.toList.drop ib) → b[ib]? = some x → (∀ z, a[ia]? = some z → Le key x z) → MI key a.toList b.toList (out.push x).toList (a.toList.drop ia) (b.toList.drop (ib + 1)) := fun out ia ib x mi ex hx => by
    rw [drop_at ex] at mi
    rw [Array.toList_push]
    refine MI.b (c := [x]) (by simpa using mi) fun u hu y hy => ?_
    rw [List.mem_singleton.mp hu]
    obtain ⟨j, j1, j2, ej⟩ := mem_drop hy
    obtain ⟨z, ez, _⟩ := at_of (arr := a) (i := ia) (by omega)
    exact (hx z ez).trans (Sa ia j z y (Nat.zero_le _) j1 j2 ez ej)
  have pushA : ∀ (out : Array Keyed) (ia ib : Nat) (x : Keyed), MI key a.toList b.toList out.toList (a.toList.drop ia) (b.toList.drop ib) → a[ia]? = some x → (∀ z, b[ib]? = some z → Le key x z) → MI key a.toList b.toList (out.push x).toList (a.toList.drop (ia + 1)) (b.toList.drop ib) := fun out ia ib x mi ex hx => by
    rw [drop_at ex] at mi
    rw [Array.toList_push]
    refine MI.a (c := [x]) (by simpa using mi) fun u hu y hy => ?_
    rw [List.mem_singleton.mp hu]
    obtain ⟨j, j1, j2, ej⟩ := mem_drop hy
    obtain ⟨z, ez, _⟩ := at_of (arr := b) (i := ib) (by omega)
    exact (hx z ez).trans (Sb ib j z y (Nat.zero_le _) j1 j2 ez ej)
  refine wpS_bind (wpS_lift (wpAny_rule ⟨rfl, ?_⟩))
  obtain ⟨y0, ey0, my0⟩ := at_of (arr := b) (i := 0) zb
  refine wpS_bind (wp_elem ey0 ?_)
  dsimp only
  have mi0 : MI key a.toList b.toList (#[y0] : Array Keyed).toList (a.toList.drop 0) (b.toList.drop 1) := by
    have : MI key a.toList b.toList (#[] : Array Keyed).toList (a.toList.drop 0) (b.toList.drop 0) := ⟨by simp, List.Pairwise.nil, by simpa using sa, by simpa using sb, fun _ hx => (by simp at hx), fun _ hx => (by simp at hx)⟩
    exact pushB #[] 0 0 y0 this ey0 fun z ez => first y0 ey0 z (by
      obtain ⟨hz, rfl⟩ := Array.getElem?_eq_some_iff.mp ez
      simp)
  by_cases c1 : (1 == b.size) = true
  · rw [if_pos c1]
    exact wpS_pure (h _ _ (Sm.refl _) (doneB _ _ _ mi0 (.inl (by simpa using c1))))
  rw [if_neg c1]
  have c1' : 1 ≠ b.size := by simpa using c1
  by_cases c2 : (0 + 1 == a.size) = true
  · rw [if_pos c2]
    exact wpS_pure (h _ _ (Sm.refl _) (lastA _ _ _ mi0 (by simpa using c2)))
  rw [if_neg c2]
  have c2' : 0 + 1 ≠ a.size := by simpa using c2
  refine wpS_bind (wpS_get ?_)
  refine wpS_bind (wpS_mono (wpS_forRange
    (I := fun x c st' => Sm st st' ∧ ∃ out ia ib g, c = (none, out, ia, ib, g) ∧ LoA key a b out ia ib ∧ x + 1 ≤ ia + ib)
    (Q := fun c st' => Sm st st' ∧ ∃ r rest, c = (some r, rest) ∧ MOk key a.toList b.toList r.toList) ?step ?fin ⟨Sm.refl _, _, _, _, _, rfl, ⟨mi0, by omega, by omega⟩, by omega⟩) ?post)
  case post =>
    rintro c st' ⟨hS, r, rest, rfl, hr⟩
    exact wpS_pure (h r st' hS hr)
  case fin =>
    rintro c st' ⟨hS, out, ia, ib, g, rfl, hL, hx⟩
    have := hL.ha
    have := hL.hb
    exact absurd hx (by omega)
  case step =>
    rintro x c st1 _ hx ⟨hS1, out, ia, ib, g, rfl, hL, hxx⟩
    dsimp only
    refine wpS_bind (wpS_mono (wpS_forRange
      (I := fun y c st' => st' = st1 ∧ ∃ out ia' ib' ac bc, c = (none, out, ia', ib', ac, bc) ∧ LoA key a b out ia' ib' ∧ ia + ib + y ≤ ia' + ib')
      (Q := fun c st' => st' = st1 ∧ ((∃ r rest, c = (some r, rest) ∧ MOk key a.toList b.toList r.toList) ∨ ∃ out ia' ib' ac bc, c = (none, out, ia', ib', ac, bc) ∧ LoA key a b out ia' ib' ∧ ia + ib + 1 ≤ ia' + ib'))
      ?istep ?ifin ⟨rfl, _, _, _, _, _, rfl, hL, Nat.le_refl _⟩) ?ipost)
    case ifin =>
      rintro c st' ⟨rfl, out, ia', ib', ac, bc, rfl, hL', hy⟩
      exact ⟨rfl, .inr ⟨_, _, _, _, _, rfl, hL', by omega⟩⟩
    case istep =>
      rintro y c st' _ hy ⟨rfl, out, ia', ib', ac, bc, rfl, hL', hyy⟩
      dsimp only
      obtain ⟨ha', hb'⟩ := And.intro hL'.ha hL'.hb
      obtain ⟨xb, exb, mxb⟩ := at_of (arr := b) (i := ib') hb'
      obtain ⟨xa, exa, mxa⟩ := at_of (arr := a) (i := ia') (by omega)
      refine wpS_bind (wp_elem exb (wpS_bind (wp_elem exa (wpS_bind (hA xb xa _ _ (hS1.kind.trans hk) (pb _ mxb) (pa _ mxa) ?_)))))
      dsimp only
      cases c3 : ll (key xb) (key xa) with
      | true =>
        rw [if_pos rfl]
        refine wpS_bind (wp_elem exb ?_)
        have mi' := pushB out ia' ib' xb hL'.mi exb (fun z ez => by rw [exa] at ez; cases ez; exact Le.of_lt c3)
        by_cases c4 : (ib' + 1 == b.size) = true
        · rw [if_pos c4]
          exact wpS_pure ⟨rfl, .inl ⟨_, _, rfl, doneB _ _ _ mi' (.inl (by simpa using c4))⟩⟩
        · rw [if_neg c4]
          have c4' : ib' + 1 ≠ b.size := by simpa using c4
          have hL2 : LoA key a b (out.push xb) ia' (ib' + 1) := ⟨mi', ha', by omega⟩
          by_cases c5 : bc + 1 ≥ g
          · rw [if_pos c5]; exact wpS_pure ⟨rfl, .inr ⟨_, _, _, _, _, rfl, hL2, by omega⟩⟩
          · rw [if_neg c5]; exact wpS_pure ⟨rfl, _, _, _, _, _, rfl, hL2, by omega⟩
      | false =>
        rw [if_neg (by simp)]
        refine wpS_bind (wp_elem exa ?_)
        have mi' := pushA out ia' ib' xa hL'.mi exa (fun z ez => by rw [exb] at ez; cases ez; exact c3)
        by_cases c4 : (ia' + 1 + 1 == a.size) = true
        · rw [if_pos c4]
          exact wpS_pure ⟨rfl, .inl ⟨_, _, rfl, lastA _ _ _ mi' (by simpa using c4)⟩⟩
        · rw [if_neg c4]
          have c4' : ia' + 1 + 1 ≠ a.size := by simpa using c4
          have hL2 : LoA key a b (out.push xa) (ia' + 1) ib' := ⟨mi', by omega, hb'⟩
          by_cases c5 : ac + 1 ≥ g
          · rw [if_pos c5]; exact wpS_pure ⟨rfl, .inr ⟨_, _, _, _, _, rfl, hL2, by omega⟩⟩
          · rw [if_neg c5]; exact wpS_pure ⟨rfl, _, _, _, _, _, rfl, hL2, by omega⟩
    case ipost =>
      rintro c st' ⟨rfl, hc⟩
      rcases hc with ⟨r, rest, rfl, hr⟩ | ⟨out, ia2, ib2, ac, bc, rfl, hL2, hy2⟩
      · dsimp only
        exact wpS_pure ⟨hS1, r, _, rfl, hr⟩
      dsimp only
      refine wpS_bind (wpS_lift (wpAny_rule ⟨rfl, ?_⟩))
      refine wpS_bind (wpS_mono (wpS_forRange
        (I := fun y c st' => Sm st st' ∧ ∃ out ia' ib' g ac bc, c = (none, out, ia', ib', g, ac, bc) ∧ LoA key a b out ia' ib' ∧ ia2 + ib2 ≤ ia' + ib')
        (Q := fun c st' => Sm st st' ∧ ((∃ r rest, c = (some r, rest) ∧ MOk key a.toList b.toList r.toList) ∨ ∃ out ia' ib' g ac bc, c = (none, out, ia', ib', g, ac, bc) ∧ LoA key a b out ia' ib' ∧ ia2 + ib2 ≤ ia' + ib'))
        ?gstep ?gfin ⟨hS1, _, _, _, _, _, _, rfl, hL2, Nat.le_refl _⟩) ?gpost)
      case gfin =>
        rintro c st' ⟨hS, out, ia', ib', g, ac, bc, rfl, hL', hy⟩
        exact ⟨hS, .inr ⟨_, _, _, _, _, _, rfl, hL', hy⟩⟩
      case gpost =>
        rintro c st' ⟨hS, hc⟩
        rcases hc with ⟨r, rest, rfl, hr⟩ | ⟨out, ia3, ib3, g, ac, bc, rfl, hL3, hy3⟩
        · dsimp only
          exact wpS_pure ⟨hS, r, _, rfl, hr⟩
        dsimp only
        refine wpS_bind (wpS_modify (wpS_pure ⟨hS.trans ⟨rfl, rfl, rfl, rfl⟩, _, _, _, _, rfl, hL3, by omega⟩))
      case gstep =>
        rintro y c st2 _ hy ⟨hS2, out, ia', ib', g, ac, bc, rfl, hL', hyy⟩
        dsimp only
        have ha' := hL'.ha
        have hb' := hL'.hb
        obtain ⟨xb, exb, mxb⟩ := at_of (arr := b) (i := ib') hb'
        by_cases hg : g > 1
        case' pos => rw [if_pos hg]
        case' neg => rw [if_neg hg]
        all_goals
          refine wpS_bind (wp_setG fun st3 hS3' => ?_)
          have hS3 := hS2.trans hS3'
          refine wpS_bind (wp_elem exb ?_)
          refine wpS_bind (wp_gallopR hA (hS3.kind.trans hk) (pb _ mxb) (by omega) pa (fun i j x y q1 q2 q3 => Sa i j x y (Nat.zero_le _) q2 (by omega)) (by omega) fun k w1 w2 w3 => ?_)
          dsimp only
          by_cases hk0 : k > 0
          · rw [if_pos hk0]
            have mi1 : MI key a.toList b.toList (out ++ a.extract ia' (ia' + k)).toList (a.toList.drop (ia' + k)) (b.toList.drop ib') := by
              rw [Array.toList_append]
              refine MI.a (by rw [← drop_ext]; exact hL'.mi) fun x hx y hy => ?_
              obtain ⟨i, i1, i2, i3, ei⟩ := mem_ext hx
              obtain ⟨j, j1, j2, ej⟩ := mem_drop hy
              exact (w2 i x i1 i2 ei).trans (Sb ib' j xb y (Nat.zero_le _) j1 j2 exb ej)
            by_cases e1 : (ia' + k + 1 == a.size) = true
            · rw [if_pos e1]
              exact wpS_pure ⟨hS3, .inl ⟨_, _, rfl, lastA _ _ _ mi1 (by simpa using e1)⟩⟩
            rw [if_neg e1]
            have e1' : ia' + k + 1 ≠ a.size := by simpa using e1
            by_cases e2 : (ia' + k == a.size) = true
            · rw [if_pos e2]
              exact wpS_pure ⟨hS3, .inl ⟨_, _, rfl, doneB _ _ _ mi1 (.inr (by simpa using e2))⟩⟩
            rw [if_neg e2]
            have e2' : ia' + k ≠ a.size := by simpa using e2
            have lt1 : ia' + k + 1 < a.size := by omega
            have low : ∀ z, a[ia' + k]? = some z → Le key xb z := fun z ez => Le.of_lt (w3 _ z (Nat.le_refl _) (by omega) ez)
            have cnt : ia2 + ib2 ≤ ia' + k + ib' := by omega
            clear w2 w3 e1 e2
            generalize out ++ a.extract ia' (ia' + k) = out1 at *
            generalize ia' + k = ia1 at *
            obtain ⟨xa1, exa1, mxa1⟩ := at_of (arr := a) (i := ia1) (by omega)
            refine wpS_bind (wp_elem exb ?_)
            have mi1b := pushB out1 ia1 ib' xb mi1 exb low
            by_cases e3 : (ib' + 1 == b.size) = true
            · rw [if_pos e3]
              exact wpS_pure ⟨hS3, .inl ⟨_, _, rfl, doneB _ _ _ mi1b (.inl (by simpa using e3))⟩⟩
            rw [if_neg e3]
            have e3' : ib' + 1 ≠ b.size := by simpa using e3
            refine wpS_bind (wp_elem exa1 ?_)
            refine wpS_bind (wp_gallopL hA (hS3.kind.trans hk) (pa _ mxa1) (by omega) pb (fun i j x y q1 q2 q3 => Sb i j x y (Nat.zero_le _) q2 (by omega)) (by omega) fun k2 u1 u2 u3 => ?_)
            dsimp only
            by_cases hk2 : k2 > 0
            · rw [if_pos hk2]
              have mi2 : MI key a.toList b.toList (out1.push xb ++ b.extract (ib' + 1) (ib' + 1 + k2)).toList (a.toList.drop ia1) (b.toList.drop (ib' + 1 + k2)) := by
                rw [Array.toList_append]
                refine MI.b (by rw [← drop_ext]; exact mi1b) fun x hx y hy => ?_
                obtain ⟨i, i1, i2, i3, ei⟩ := mem_ext hx
                obtain ⟨j, j1, j2, ej⟩ := mem_drop hy
                exact (Le.of_lt (u2 i x i1 i2 ei)).trans (Sa ia1 j xa1 y (Nat.zero_le _) j1 j2 exa1 ej)
              by_cases e4 : (ib' + 1 + k2 == b.size) = true
              · rw [if_pos e4]
                exact wpS_pure ⟨hS3, .inl ⟨_, _, rfl, doneB _ _ _ mi2 (.inl (by simpa using e4))⟩⟩
              rw [if_neg e4]
              have e4' : ib' + 1 + k2 ≠ b.size := by simpa using e4
              have up2 : ∀ z, b[ib' + 1 + k2]? = some z → Le key xa1 z := fun z ez => u3 _ z (Nat.le_refl _) (by omega) ez
              have cnt2 : ia2 + ib2 ≤ ia1 + 1 + (ib' + 1 + k2) := by omega
              have ltz : ib' + 1 + k2 < b.size := by omega
              clear u2 u3 e4
              generalize out1.push xb ++ b.extract (ib' + 1) (ib' + 1 + k2) = out2 at *
              generalize ib' + 1 + k2 = ibz at *
              refine wpS_bind (wp_elem exa1 ?_)
              have mi3 := pushA out2 ia1 ibz xa1 mi2 exa1 up2
              by_cases d1 : (ia1 + 1 + 1 == a.size) = true
              · rw [if_pos d1]
                exact wpS_pure ⟨hS3, .inl ⟨_, _, rfl, lastA _ _ _ mi3 (by simpa using d1)⟩⟩
              rw [if_neg d1]
              have d1' : ia1 + 1 + 1 ≠ a.size := by simpa using d1
              have hL4 : LoA key a b (out2.push xa1) (ia1 + 1) ibz := ⟨mi3, by omega, by omega⟩
              split
              · exact wpS_pure ⟨hS3, .inr ⟨_, _, _, _, _, _, rfl, hL4, by omega⟩⟩
              · exact wpS_pure ⟨hS3, _, _, _, _, _, _, rfl, hL4, by omega⟩
            · rw [if_neg hk2]
              have mi2 := mi1b
              have hk2' : k2 = 0 := by omega
              have up2 : ∀ z, b[ib' + 1]? = some z → Le key xa1 z := fun z ez => u3 _ z (by omega) (by omega) ez
              have cnt2 : ia2 + ib2 ≤ ia1 + 1 + (ib' + 1) := by omega
              have ltz : ib' + 1 < b.size := by omega
              clear u2 u3 mi1b
              generalize out1.push xb = out2 at *
              generalize ib' + 1 = ibz at *
              refine wpS_bind (wp_elem exa1 ?_)
              have mi3 := pushA out2 ia1 ibz xa1 mi2 exa1 up2
              by_cases d1 : (ia1 + 1 + 1 == a.size) = true
              · rw [if_pos d1]
                exact wpS_pure ⟨hS3, .inl ⟨_, _, rfl, lastA _ _ _ mi3 (by simpa using d1)⟩⟩
              rw [if_neg d1]
              have d1' : ia1 + 1 + 1 ≠ a.size := by simpa using d1
              have hL4 : LoA key a b (out2.push xa1) (ia1 + 1) ibz := ⟨mi3, by omega, by omega⟩
              split
              · exact wpS_pure ⟨hS3, .inr ⟨_, _, _, _, _, _, rfl, hL4, by omega⟩⟩
              · exact wpS_pure ⟨hS3, _, _, _, _, _, _, rfl, hL4, by omega⟩
          · rw [if_neg hk0]
            have mi1 := hL'.mi
            have hk0' : k = 0 := by omega
            have low : ∀ z, a[ia']? = some z → Le key xb z := fun z ez => Le.of_lt (w3 _ z (by omega) (by omega) ez)
            have lt1 : ia' + 1 < a.size := ha'
            have cnt : ia2 + ib2 ≤ ia' + ib' := hyy
            clear w2 w3
            generalize out = out1 at *
            generalize ia' = ia1 at *
            obtain ⟨xa1, exa1, mxa1⟩ := at_of (arr := a) (i := ia1) (by omega)
            refine wpS_bind (wp_elem exb ?_)
            have mi1b := pushB out1 ia1 ib' xb mi1 exb low
            by_cases e3 : (ib' + 1 == b.size) = true
            · rw [if_pos e3]
              exact wpS_pure ⟨hS3, .inl ⟨_, _, rfl, doneB _ _ _ mi1b (.inl (by simpa using e3))⟩⟩
            rw [if_neg e3]
            have e3' : ib' + 1 ≠ b.size := by simpa using e3
            refine wpS_bind (wp_elem exa1 ?_)
            refine wpS_bind (wp_gallopL hA (hS3.kind.trans hk) (pa _ mxa1) (by omega) pb (fun i j x y q1 q2 q3 => Sb i j x y (Nat.zero_le _) q2 (by omega)) (by omega) fun k2 u1 u2 u3 => ?_)
            dsimp only
            by_cases hk2 : k2 > 0
            · rw [if_pos hk2]
              have mi2 : MI key a.toList b.toList (out1.push xb ++ b.extract (ib' + 1) (ib' + 1 + k2)).toList (a.toList.drop ia1) (b.toList.drop (ib' + 1 + k2)) := by
                rw [Array.toList_append]
                refine MI.b (by rw [← drop_ext]; exact mi1b) fun x hx y hy => ?_
                obtain ⟨i, i1, i2, i3, ei⟩ := mem_ext hx
                obtain ⟨j, j1, j2, ej⟩ := mem_drop hy
                exact (Le.of_lt (u2 i x i1 i2 ei)).trans (Sa ia1 j xa1 y (Nat.zero_le _) j1 j2 exa1 ej)
              by_cases e4 : (ib' + 1 + k2 == b.size) = true
              · rw [if_pos e4]
                exact wpS_pure ⟨hS3, .inl ⟨_, _, rfl, doneB _ _ _ mi2 (.inl (by simpa using e4))⟩⟩
              rw [if_neg e4]
              have e4' : ib' + 1 + k2 ≠ b.size := by simpa using e4
              have up2 : ∀ z, b[ib' + 1 + k2]? = some z → Le key xa1 z := fun z ez => u3 _ z (Nat.le_refl _) (by omega) ez
              have cnt2 : ia2 + ib2 ≤ ia1 + 1 + (ib' + 1 + k2) := by omega
              have ltz : ib' + 1 + k2 < b.size := by omega
              clear u2 u3 e4
              generalize out1.push xb ++ b.extract (ib' + 1) (ib' + 1 + k2) = out2 at *
              generalize ib' + 1 + k2 = ibz at *
              refine wpS_bind (wp_elem exa1 ?_)
              have mi3 := pushA out2 ia1 ibz xa1 mi2 exa1 up2
              by_cases d1 : (ia1 + 1 + 1 == a.size) = true
              · rw [if_pos d1]
                exact wpS_pure ⟨hS3, .inl ⟨_, _, rfl, lastA _ _ _ mi3 (by simpa using d1)⟩⟩
              rw [if_neg d1]
              have d1' : ia1 + 1 + 1 ≠ a.size := by simpa using d1
              have hL4 : LoA key a b (out2.push xa1) (ia1 + 1) ibz := ⟨mi3, by omega, by omega⟩
              split
              · exact wpS_pure ⟨hS3, .inr ⟨_, _, _, _, _, _, rfl, hL4, by omega⟩⟩
              · exact wpS_pure ⟨hS3, _, _, _, _, _, _, rfl, hL4, by omega⟩
            · rw [if_neg hk2]
              have mi2 := mi1b
              have hk2' : k2 = 0 := by omega
              have up2 : ∀ z, b[ib' + 1]? = some z → Le key xa1 z := fun z ez => u3 _ z (by omega) (by omega) ez
              have cnt2 : ia2 + ib2 ≤ ia1 + 1 + (ib' + 1) := by omega
              have ltz : ib' + 1 < b.size := by omega
              clear u2 u3 mi1b
              generalize out1.push xb = out2 at *
              generalize ib' + 1 = ibz at *
              refine wpS_bind (wp_elem exa1 ?_)
              have mi3 := pushA out2 ia1 ibz xa1 mi2 exa1 up2
              by_cases d1 : (ia1 + 1 + 1 == a.size) = true
              · rw [if_pos d1]
                exact wpS_pure ⟨hS3, .inl ⟨_, _, rfl, lastA _ _ _ mi3 (by simpa using d1)⟩⟩
              rw [if_neg d1]
              have d1' : ia1 + 1 + 1 ≠ a.size := by simpa using d1
              have hL4 : LoA key a b (out2.push xa1) (ia1 + 1) ibz := ⟨mi3, by omega, by omega⟩
              split
              · exact wpS_pure ⟨hS3, .inr ⟨_, _, _, _, _, _, rfl, hL4, by omega⟩⟩
              · exact wpS_pure ⟨hS3, _, _, _, _, _, _, rfl, hL4, by omega⟩
end
end L3
set_option Elab.async false
set_option linter.all false
set_option maxRecDepth 100000
set_option maxHeartbeats 4000000
set_option autoImplicit false
namespace L3
open PySem PySem.Spec L2
open PyProof.Rows hiding St
def mergeHiP : Array Keyed → Array Keyed → StateT SortSt Sem (Array Keyed) := sortPriv% PySem.Builtin.mergeHi
section
variable {key : Keyed → List Int}
structure MH (key : Keyed → List Int) (la lb o ra rb : List Keyed) : Prop where
  perm : (ra ++ rb ++ o).Perm (la ++ lb)
  so : o.Pairwise (Le key)
  sa : ra.Pairwise (Le key)
  sb : rb.Pairwise (Le key)
  ao : ∀ x ∈ ra, ∀ y ∈ o, Le key x y
  bo : ∀ x ∈ rb, ∀ y ∈ o, Le key x y
theorem MH.b {la lb o c ra rb : List Keyed} (h : MH key la lb o ra (rb ++ c)) (hc : ∀ x ∈ c, ∀ y ∈ ra, Le key y x) : MH key la lb (c ++ o) ra rb := by
  obtain ⟨p, so, sa, sb, ao, bo⟩ := h
  obtain ⟨s1, s2, s3⟩ := List.pairwise_append.mp sb
  refine ⟨by simpa using p, List.pairwise_append.mpr ⟨s2, so, fun x hx y hy => bo x (List.mem_append_right _ hx) y hy⟩, sa, s1, fun x hx y hy => ?_, fun x hx y hy => ?_⟩
  · rcases List.mem_append.mp hy with q | q
    · exact hc y q x hx
    · exact ao x hx y q
  · rcases List.mem_append.mp hy with q | q
    · exact s3 x hx y q
    · exact bo x (List.mem_append_left _ hx) y q
theorem MH.a {la lb o c ra rb : List Keyed} (h : MH key la lb o (ra ++ c) rb) (hc : ∀ x ∈ c, ∀ y ∈ rb, Le key y x) : MH key la lb (c ++ o) ra rb := by
  obtain ⟨p, so, sa, sb, ao, bo⟩ := h
  obtain ⟨s1, s2, s3⟩ := List.pairwise_append.mp sa
  refine ⟨?_, List.pairwise_append.mpr ⟨s2, so, fun x hx y hy => ao x (List.mem_append_right _ hx) y hy⟩, s1, sb, fun x hx y hy => ?_, fun x hx y hy => ?_⟩
  · refine List.Perm.trans ?_ p
    have : (rb ++ c).Perm (c ++ rb) := List.perm_append_comm
    have e1 : ra ++ rb ++ (c ++ o) = ra ++ ((rb ++ c) ++ o) := by simp
    have e2 : ra ++ c ++ rb ++ o = ra ++ ((c ++ rb) ++ o) := by simp
    rw [e1, e2]
    exact (this.append_right o).append_left ra
  · rcases List.mem_append.mp hy with q | q
    · exact s3 x hx y q
    · exact ao x (List.mem_append_left _ hx) y q
  · rcases List.mem_append.mp hy with q | q
    · exact hc y q x hx
    · exact bo x hx y q
theorem MH.ab {la lb o ra rb : List Keyed} (h : MH key la lb o ra rb) (hc : ∀ x ∈ ra, ∀ y ∈ rb, Le key x y) : MOk key la lb (ra ++ rb ++ o) := by
  have h1 : MH key la lb (rb ++ o) ra [] := MH.b (by simpa using h) (fun x hx y hy => hc y hy x hx)
  have h2 : MH key la lb (ra ++ (rb ++ o)) [] [] := MH.a (by simpa using h1) (fun _ _ _ hy => nomatch hy)
  exact ⟨by simpa using h2.perm, by simpa using h2.so⟩
theorem MH.ba {la lb o ra rb : List Keyed} (h : MH key la lb o ra rb) (hc : ∀ x ∈ rb, ∀ y ∈ ra, Le key x y) : MOk key la lb (rb ++ ra ++ o) := by
  have h1 : MH key la lb (ra ++ o) [] rb := MH.a (by simpa using h) (fun x hx y hy => hc y hy x hx)
  have h2 : MH key la lb (rb ++ (ra ++ o)) [] [] := MH.b (by simpa using h1) (fun _ _ _ hy => nomatch hy)
  exact ⟨by simpa using h2.perm, by simpa using h2.so⟩
end
section
variable {M : Model} {A : Around} {E : Value → Shared → Prop} {s : Shared} {κ : SortKind} {key : Keyed → List Int} {P : Keyed → Prop}
structure HiA (key : Keyed → List Int) (a b : Array Keyed) (out : Array Keyed) (na nb : Nat) : Prop where
  mi : MH key a.toList b.toList out.reverse.toList (a.toList.take na) (b.toList.take nb)
  ha : 0 < na
  ha2 : na ≤ a.size
  hb : 1 < nb
  hb2 : nb ≤ b.size
theorem wp_mergeHi (hA : Asks M A E s κ key P) {a b : Array Keyed} {st : SortSt} {Q : Array Keyed → SortSt → Prop} (hk : kindOf st = κ)
    (pa : ∀ x ∈ a.toList, P x) (pb : ∀ x ∈ b.toList, P x) (za : 0 < a.size) (zb : 0 < b.size) (sa : a.toList.Pairwise (Le key)) (sb : b.toList.Pairwise (Le key))
    (first : ∀ y, b[0]? = some y → ∀ x ∈ a.toList, Le key y x) (last : ∀ z, a[a.size - 1]? = some z → ∀ y ∈ b.toList, Le key y z)
    (h : ∀ r st', Sm st st' → MOk key a.toList b.toList r.toList → Q r st') : wpS M A E s (mergeHiP a b) Q st := by
  have Sa : SegS key a 0 a.size := segS_all.mp sa
  have Sb : SegS key b 0 b.size := segS_all.mp sb
  have doneB : ∀ (out : Array Keyed) (na nb : Nat), MH key a.toList b.toList out.reverse.toList (a.toList.take na) (b.toList.take nb) → (na = 0 ∨ nb = 0) → MOk key a.toList b.toList (a.extract 0 na ++ b.extract 0 nb ++ out.reverse).toList := fun out na nb mi hc => by
    rw [Array.toList_append, Array.toList_append, ext_begin, ext_begin]
    refine mi.ab fun x hx y hy => ?_
    rcases hc with hc | hc
    · rw [hc] at hx; cases hx
    · rw [hc] at hy; cases hy
  have firstB : ∀ (out : Array Keyed) (na nb : Nat), MH key a.toList b.toList out.reverse.toList (a.toList.take na) (b.toList.take nb) → nb = 1 → MOk key a.toList b.toList (b.extract 0 nb ++ a.extract 0 na ++ out.reverse).toList := fun out na nb mi hc => by
    rw [Array.toList_append, Array.toList_append, ext_begin, ext_begin]
    refine mi.ba fun x hx y hy => ?_
    obtain ⟨j, j1, j2, ej⟩ := mem_take hx
    have : j = 0 := by omega
    subst this
    exact first x ej y (List.mem_of_mem_take hy)
  have pushB : ∀ (out : Array Keyed) (na nb : Nat) (x : Keyed), MH key a.toList b.toList out.reverse.toList (a.toList.take na) (b.toList.take nb) → 0 < nb → na ≤ a.size → b[nb - 1]? = some x → (∀ z, 0 < na → a[na - 1]? = some z → Le key z x) → MH key a.toList b.toList (out.push x).reverse.toList (a.toList.take na) (b.toList.take (nb - 1)) := fun out na nb x mi h0 hz ex hx => by
    have e := take_at ex
    rw [show nb - 1 + 1 = nb by omega] at e
    rw [e] at mi
    have er : (out.push x).reverse.toList = [x] ++ out.reverse.toList := by simp
    rw [er]
    refine MH.b mi fun u hu y hy => ?_
    rw [List.mem_singleton.mp hu]
    obtain ⟨j, j1, j2, ej⟩ := mem_take hy
    obtain ⟨z, ez, _⟩ := at_of (arr := a) (i := na - 1) (by omega)
    exact (Sa j (na - 1) y z (Nat.zero_le _) (by omega) (by omega) ej ez).trans (hx z (by omega) ez)
  have pushA : ∀ (out : Array Keyed) (na nb : Nat) (x : Keyed), MH key a.toList b.toList out.reverse.toList (a.toList.take na) (b.toList.take nb) → 0 < na → nb ≤ b.size → a[na - 1]? = some x → (∀ z, 0 < nb → b[nb - 1]? = some z → Le key z x) → MH key a.toList b.toList (out.push x).reverse.toList (a.toList.take (na - 1)) (b.toList.take nb) := fun out na nb x mi h0 hz ex hx => by
    have e := take_at ex
    rw [show na - 1 + 1 = na by omega] at e
    rw [e] at mi
    have er : (out.push x).reverse.toList = [x] ++ out.reverse.toList := by simp
    rw [er]
    refine MH.a mi fun u hu y hy => ?_
    rw [List.mem_singleton.mp hu]
    obtain ⟨j, j1, j2, ej⟩ := mem_take hy
    obtain ⟨z, ez, _⟩ := at_of (arr := b) (i := nb - 1) (by omega)
    exact (Sb j (nb - 1) y z (Nat.zero_le _) (by omega) (by omega) ej ez).trans (hx z (by omega) ez)
  refine wpS_bind (wpS_lift (wpAny_rule ⟨rfl, ?_⟩))
  obtain ⟨z0, ez0, mz0⟩ := at_of (arr := a) (i := a.size - 1) (by omega)
  refine wpS_bind (wp_elem ez0 ?_)
  dsimp only
  have mi0 : MH key a.toList b.toList (#[z0] : Array Keyed).reverse.toList (a.toList.take (a.size - 1)) (b.toList.take b.size) := by
    have : MH key a.toList b.toList (#[] : Array Keyed).reverse.toList (a.toList.take a.size) (b.toList.take b.size) := by
      rw [List.take_of_length_le (by simp), List.take_of_length_le (by simp)]
      exact ⟨by simp, by simp, sa, sb, fun _ _ _ hx => (by simp at hx), fun _ _ _ hx => (by simp at hx)⟩
    exact pushA #[] a.size b.size z0 this za (Nat.le_refl _) ez0 fun z _ ez => last z0 ez0 z (by
      obtain ⟨hz, rfl⟩ := Array.getElem?_eq_some_iff.mp ez
      simp)
  by_cases c1 : (a.size - 1 == 0) = true
  · rw [if_pos c1]
    exact wpS_pure (h _ _ (Sm.refl _) (doneB _ _ _ mi0 (.inl (by simpa using c1))))
  rw [if_neg c1]
  have c1' : a.size - 1 ≠ 0 := by simpa using c1
  by_cases c2 : (b.size == 1) = true
  · rw [if_pos c2]
    exact wpS_pure (h _ _ (Sm.refl _) (firstB _ _ _ mi0 (by simpa using c2)))
  rw [if_neg c2]
  have c2' : b.size ≠ 1 := by simpa using c2
  refine wpS_bind (wpS_get ?_)
  refine wpS_bind (wpS_mono (wpS_forRange
    (I := fun x c st' => Sm st st' ∧ ∃ na nb out g, c = (none, na, nb, out, g) ∧ HiA key a b out na nb ∧ x + 1 + (na + nb) ≤ a.size + b.size)
    (Q := fun c st' => Sm st st' ∧ ∃ r rest, c = (some r, rest) ∧ MOk key a.toList b.toList r.toList) ?step ?fin ⟨Sm.refl _, _, _, _, _, rfl, ⟨mi0, by omega, by omega, by omega, by omega⟩, by omega⟩) ?post)
  case post =>
    rintro c st' ⟨hS, r, rest, rfl, hr⟩
    exact wpS_pure (h r st' hS hr)
  case fin =>
    rintro c st' ⟨hS, na, nb, out, g, rfl, hL, hx⟩
    have := hL.ha
    have := hL.hb
    exact absurd hx (by omega)
  case step =>
    rintro x c st1 _ hx ⟨hS1, na, nb, out, g, rfl, hL, hxx⟩
    dsimp only
    refine wpS_bind (wpS_mono (wpS_forRange
      (I := fun y c st' => st' = st1 ∧ ∃ na' nb' out ac bc, c = (none, na', nb', out, ac, bc) ∧ HiA key a b out na' nb' ∧ y + (na' + nb') ≤ na + nb)
      (Q := fun c st' => st' = st1 ∧ ((∃ r rest, c = (some r, rest) ∧ MOk key a.toList b.toList r.toList) ∨ ∃ na' nb' out ac bc, c = (none, na', nb', out, ac, bc) ∧ HiA key a b out na' nb' ∧ 1 + (na' + nb') ≤ na + nb))
      ?istep ?ifin ⟨rfl, _, _, _, _, _, rfl, hL, by omega⟩) ?ipost)
    case ifin =>
      rintro c st' ⟨rfl, na', nb', out, ac, bc, rfl, hL', hy⟩
      exact ⟨rfl, .inr ⟨_, _, _, _, _, rfl, hL', by omega⟩⟩
    case istep =>
      rintro y c st' _ hy ⟨rfl, na', nb', out, ac, bc, rfl, hL', hyy⟩
      dsimp only
      have q1 := hL'.ha
      have q2 := hL'.ha2
      have q3 := hL'.hb
      have q4 := hL'.hb2
      obtain ⟨xb, exb, mxb⟩ := at_of (arr := b) (i := nb' - 1) (by omega)
      obtain ⟨xa, exa, mxa⟩ := at_of (arr := a) (i := na' - 1) (by omega)
      refine wpS_bind (wp_elem exb (wpS_bind (wp_elem exa (wpS_bind (hA xb xa _ _ (hS1.kind.trans hk) (pb _ mxb) (pa _ mxa) ?_)))))
      dsimp only
      cases c3 : ll (key xb) (key xa) with
      | true =>
        rw [if_pos rfl]
        refine wpS_bind (wp_elem exa ?_)
        have mi' := pushA out na' nb' xa hL'.mi q1 q4 exa (fun z _ ez => by rw [exb] at ez; cases ez; exact Le.of_lt c3)
        by_cases c4 : (na' - 1 == 0) = true
        · rw [if_pos c4]
          exact wpS_pure ⟨rfl, .inl ⟨_, _, rfl, doneB _ _ _ mi' (.inl (by simpa using c4))⟩⟩
        · rw [if_neg c4]
          have c4' : na' - 1 ≠ 0 := by simpa using c4
          have hL2 : HiA key a b (out.push xa) (na' - 1) nb' := ⟨mi', by omega, by omega, by omega, by omega⟩
          by_cases c5 : ac + 1 ≥ g
          · rw [if_pos c5]; exact wpS_pure ⟨rfl, .inr ⟨_, _, _, _, _, rfl, hL2, by omega⟩⟩
          · rw [if_neg c5]; exact wpS_pure ⟨rfl, _, _, _, _, _, rfl, hL2, by omega⟩
      | false =>
        rw [if_neg (by simp)]
        refine wpS_bind (wp_elem exb ?_)
        have mi' := pushB out na' nb' xb hL'.mi (by omega) q2 exb (fun z _ ez => by rw [exa] at ez; cases ez; exact c3)
        by_cases c4 : (nb' - 1 == 1) = true
        · rw [if_pos c4]
          exact wpS_pure ⟨rfl, .inl ⟨_, _, rfl, firstB _ _ _ mi' (by simpa using c4)⟩⟩
        · rw [if_neg c4]
          have c4' : nb' - 1 ≠ 1 := by simpa using c4
          have hL2 : HiA key a b (out.push xb) na' (nb' - 1) := ⟨mi', by omega, by omega, by omega, by omega⟩
          by_cases c5 : bc + 1 ≥ g
          · rw [if_pos c5]; exact wpS_pure ⟨rfl, .inr ⟨_, _, _, _, _, rfl, hL2, by omega⟩⟩
          · rw [if_neg c5]; exact wpS_pure ⟨rfl, _, _, _, _, _, rfl, hL2, by omega⟩
    case ipost =>
      rintro c st' ⟨rfl, hc⟩
      rcases hc with ⟨r, rest, rfl, hr⟩ | ⟨na2, nb2, out, ac, bc, rfl, hL2, hy2⟩
      · dsimp only
        exact wpS_pure ⟨hS1, r, _, rfl, hr⟩
      dsimp only
      refine wpS_bind (wpS_lift (wpAny_rule ⟨rfl, ?_⟩))
      refine wpS_bind (wpS_mono (wpS_forRange
        (I := fun y c st' => Sm st st' ∧ ∃ na' nb' out g ac bc, c = (none, na', nb', out, g, ac, bc) ∧ HiA key a b out na' nb' ∧ na' + nb' ≤ na2 + nb2)
        (Q := fun c st' => Sm st st' ∧ ((∃ r rest, c = (some r, rest) ∧ MOk key a.toList b.toList r.toList) ∨ ∃ na' nb' out g ac bc, c = (none, na', nb', out, g, ac, bc) ∧ HiA key a b out na' nb' ∧ na' + nb' ≤ na2 + nb2))
        ?gstep ?gfin ⟨hS1, _, _, _, _, _, _, rfl, hL2, Nat.le_refl _⟩) ?gpost)
      case gfin =>
        rintro c st' ⟨hS, na', nb', out, g, ac, bc, rfl, hL', hy⟩
        exact ⟨hS, .inr ⟨_, _, _, _, _, _, rfl, hL', hy⟩⟩
      case gpost =>
        rintro c st' ⟨hS, hc⟩
        rcases hc with ⟨r, rest, rfl, hr⟩ | ⟨na3, nb3, out, g, ac, bc, rfl, hL3, hy3⟩
        · dsimp only
          exact wpS_pure ⟨hS, r, _, rfl, hr⟩
        dsimp only
        refine wpS_bind (wp_setG fun st3 hS3' => wpS_pure ⟨hS.trans hS3', _, _, _, _, rfl, hL3, by omega⟩)
      case gstep =>
        rintro y c st2 _ hy ⟨hS2, na', nb', out, g, ac, bc, rfl, hL', hyy⟩
        dsimp only
        have q1 := hL'.ha
        have q2 := hL'.ha2
        have q3 := hL'.hb
        have q4 := hL'.hb2
        obtain ⟨xb, exb, mxb⟩ := at_of (arr := b) (i := nb' - 1) (by omega)
        by_cases hg : g > 1
        case' pos => rw [if_pos hg]
        case' neg => rw [if_neg hg]
        all_goals
          refine wpS_bind (wp_setG fun st3 hS3' => ?_)
          have hS3 := hS2.trans hS3'
          refine wpS_bind (wp_elem exb ?_)
          refine wpS_bind (wp_gallopR hA (hS3.kind.trans hk) (pb _ mxb) (by omega) pa (fun i j x y q1 q2 q3 => Sa i j x y (Nat.zero_le _) q2 (by omega)) (by omega) fun at1 w1 w2 w3 => ?_)
          dsimp only
          by_cases hk0 : na' - at1 > 0
          · rw [if_pos hk0]
            have mi1 : MH key a.toList b.toList (out ++ (a.extract at1 na').reverse).reverse.toList (a.toList.take at1) (b.toList.take nb') := by
              have er : (out ++ (a.extract at1 na').reverse).reverse.toList = (a.extract at1 na').toList ++ out.reverse.toList := by simp
              rw [er]
              refine MH.a (by rw [← take_ext (by omega)]; exact hL'.mi) fun x hx y hy => ?_
              obtain ⟨i, i1, i2, i3, ei⟩ := mem_ext hx
              obtain ⟨j, j1, j2, ej⟩ := mem_take hy
              exact (Sb j (nb' - 1) y xb (Nat.zero_le _) (by omega) (by omega) ej exb).trans (Le.of_lt (w3 i x (by omega) (by omega) ei))
            by_cases e1 : (at1 == 0) = true
            · rw [if_pos e1]
              exact wpS_pure ⟨hS3, .inl ⟨_, _, rfl, doneB _ _ _ mi1 (.inl (by simpa using e1))⟩⟩
            rw [if_neg e1]
            have e1' : at1 ≠ 0 := by simpa using e1
            have low : ∀ z, 0 < at1 → a[at1 - 1]? = some z → Le key z xb := fun z _ ez => w2 _ z (Nat.zero_le _) (by omega) ez
            have cnt : at1 + nb' ≤ na2 + nb2 := by omega
            replace q1 : 0 < at1 := by omega
            replace q2 : at1 ≤ a.size := by omega
            clear w2 w3 e1
            generalize out ++ (a.extract at1 na').reverse = out1 at *
            generalize at1 = na1 at *
            obtain ⟨xa1, exa1, mxa1⟩ := at_of (arr := a) (i := na1 - 1) (by omega)
            refine wpS_bind (wp_elem exb ?_)
            have mi1b := pushB out1 na1 nb' xb mi1 (by omega) q2 exb low
            by_cases e3 : (nb' - 1 == 1) = true
            · rw [if_pos e3]
              exact wpS_pure ⟨hS3, .inl ⟨_, _, rfl, firstB _ _ _ mi1b (by simpa using e3)⟩⟩
            rw [if_neg e3]
            have e3' : nb' - 1 ≠ 1 := by simpa using e3
            refine wpS_bind (wp_elem exa1 ?_)
            refine wpS_bind (wp_gallopL hA (hS3.kind.trans hk) (pa _ mxa1) (by omega) pb (fun i j x y q1 q2 q3 => Sb i j x y (Nat.zero_le _) q2 (by omega)) (by omega) fun at2 u1 u2 u3 => ?_)
            dsimp only
            by_cases hk2 : nb' - 1 - at2 > 0
            · rw [if_pos hk2]
              have mi2 : MH key a.toList b.toList (out1.push xb ++ (b.extract at2 (nb' - 1)).reverse).reverse.toList (a.toList.take na1) (b.toList.take at2) := by
                have er : (out1.push xb ++ (b.extract at2 (nb' - 1)).reverse).reverse.toList = (b.extract at2 (nb' - 1)).toList ++ (out1.push xb).reverse.toList := by simp
                rw [er]
                refine MH.b (by rw [← take_ext (by omega)]; exact mi1b) fun x hx y hy => ?_
                obtain ⟨i, i1, i2, i3, ei⟩ := mem_ext hx
                obtain ⟨j, j1, j2, ej⟩ := mem_take hy
                exact (Sa j (na1 - 1) y xa1 (Nat.zero_le _) (by omega) (by omega) ej exa1).trans (u3 i x (by omega) (by omega) ei)
              by_cases e4 : (at2 == 1) = true
              · rw [if_pos e4]
                exact wpS_pure ⟨hS3, .inl ⟨_, _, rfl, firstB _ _ _ mi2 (by simpa using e4)⟩⟩
              rw [if_neg e4]
              have e4' : at2 ≠ 1 := by simpa using e4
              by_cases e5 : (at2 == 0) = true
              · rw [if_pos e5]
                exact wpS_pure ⟨hS3, .inl ⟨_, _, rfl, doneB _ _ _ mi2 (.inr (by simpa using e5))⟩⟩
              rw [if_neg e5]
              have e5' : at2 ≠ 0 := by simpa using e5
              have up2 : ∀ z, 0 < at2 → b[at2 - 1]? = some z → Le key z xa1 := fun z _ ez => Le.of_lt (u2 _ z (Nat.zero_le _) (by omega) ez)
              have cnt2 : na1 + at2 ≤ na2 + nb2 := by omega
              have gtz : 1 < at2 := by omega
              have ltz : at2 ≤ b.size := by omega
              clear u2 u3 e4 e5
              generalize out1.push xb ++ (b.extract at2 (nb' - 1)).reverse = out2 at *
              generalize at2 = nbz at *
              refine wpS_bind (wp_elem exa1 ?_)
              have mi3 := pushA out2 na1 nbz xa1 mi2 q1 (by omega) exa1 up2
              by_cases d1 : (na1 - 1 == 0) = true
              · rw [if_pos d1]
                exact wpS_pure ⟨hS3, .inl ⟨_, _, rfl, doneB _ _ _ mi3 (.inl (by simpa using d1))⟩⟩
              rw [if_neg d1]
              have d1' : na1 - 1 ≠ 0 := by simpa using d1
              have hL4 : HiA key a b (out2.push xa1) (na1 - 1) nbz := ⟨mi3, by omega, by omega, by omega, by omega⟩
              split
              · exact wpS_pure ⟨hS3, .inr ⟨_, _, _, _, _, _, rfl, hL4, by omega⟩⟩
              · exact wpS_pure ⟨hS3, _, _, _, _, _, _, rfl, hL4, by omega⟩
            · rw [if_neg hk2]
              have mi2 := mi1b
              have up2 : ∀ z, 0 < nb' - 1 → b[nb' - 1 - 1]? = some z → Le key z xa1 := fun z _ ez => Le.of_lt (u2 _ z (Nat.zero_le _) (by omega) ez)
              have cnt2 : na1 + (nb' - 1) ≤ na2 + nb2 := by omega
              have gtz : 1 < nb' - 1 := by omega
              have ltz : nb' - 1 ≤ b.size := by omega
              clear u2 u3 mi1b hk2 u1
              generalize out1.push xb = out2 at *
              generalize nb' - 1 = nbz at *
              refine wpS_bind (wp_elem exa1 ?_)
              have mi3 := pushA out2 na1 nbz xa1 mi2 q1 (by omega) exa1 up2
              by_cases d1 : (na1 - 1 == 0) = true
              · rw [if_pos d1]
                exact wpS_pure ⟨hS3, .inl ⟨_, _, rfl, doneB _ _ _ mi3 (.inl (by simpa using d1))⟩⟩
              rw [if_neg d1]
              have d1' : na1 - 1 ≠ 0 := by simpa using d1
              have hL4 : HiA key a b (out2.push xa1) (na1 - 1) nbz := ⟨mi3, by omega, by omega, by omega, by omega⟩
              split
              · exact wpS_pure ⟨hS3, .inr ⟨_, _, _, _, _, _, rfl, hL4, by omega⟩⟩
              · exact wpS_pure ⟨hS3, _, _, _, _, _, _, rfl, hL4, by omega⟩
          · rw [if_neg hk0]
            have mi1 := hL'.mi
            have low : ∀ z, 0 < na' → a[na' - 1]? = some z → Le key z xb := fun z _ ez => w2 _ z (Nat.zero_le _) (by omega) ez
            have cnt : na' + nb' ≤ na2 + nb2 := hyy
            clear w2 w3 hk0 w1
            generalize out = out1 at *
            generalize na' = na1 at *
            obtain ⟨xa1, exa1, mxa1⟩ := at_of (arr := a) (i := na1 - 1) (by omega)
            refine wpS_bind (wp_elem exb ?_)
            have mi1b := pushB out1 na1 nb' xb mi1 (by omega) q2 exb low
            by_cases e3 : (nb' - 1 == 1) = true
            · rw [if_pos e3]
              exact wpS_pure ⟨hS3, .inl ⟨_, _, rfl, firstB _ _ _ mi1b (by simpa using e3)⟩⟩
            rw [if_neg e3]
            have e3' : nb' - 1 ≠ 1 := by simpa using e3
            refine wpS_bind (wp_elem exa1 ?_)
            refine wpS_bind (wp_gallopL hA (hS3.kind.trans hk) (pa _ mxa1) (by omega) pb (fun i j x y q1 q2 q3 => Sb i j x y (Nat.zero_le _) q2 (by omega)) (by omega) fun at2 u1 u2 u3 => ?_)
            dsimp only
            by_cases hk2 : nb' - 1 - at2 > 0
            · rw [if_pos hk2]
              have mi2 : MH key a.toList b.toList (out1.push xb ++ (b.extract at2 (nb' - 1)).reverse).reverse.toList (a.toList.take na1) (b.toList.take at2) := by
                have er : (out1.push xb ++ (b.extract at2 (nb' - 1)).reverse).reverse.toList = (b.extract at2 (nb' - 1)).toList ++ (out1.push xb).reverse.toList := by simp
                rw [er]
                refine MH.b (by rw [← take_ext (by omega)]; exact mi1b) fun x hx y hy => ?_
                obtain ⟨i, i1, i2, i3, ei⟩ := mem_ext hx
                obtain ⟨j, j1, j2, ej⟩ := mem_take hy
                exact (Sa j (na1 - 1) y xa1 (Nat.zero_le _) (by omega) (by omega) ej exa1).trans (u3 i x (by omega) (by omega) ei)
              by_cases e4 : (at2 == 1) = true
              · rw [if_pos e4]
                exact wpS_pure ⟨hS3, .inl ⟨_, _, rfl, firstB _ _ _ mi2 (by simpa using e4)⟩⟩
              rw [if_neg e4]
              have e4' : at2 ≠ 1 := by simpa using e4
              by_cases e5 : (at2 == 0) = true
              · rw [if_pos e5]
                exact wpS_pure ⟨hS3, .inl ⟨_, _, rfl, doneB _ _ _ mi2 (.inr (by simpa using e5))⟩⟩
              rw [if_neg e5]
              have e5' : at2 ≠ 0 := by simpa using e5
              have up2 : ∀ z, 0 < at2 → b[at2 - 1]? = some z → Le key z xa1 := fun z _ ez => Le.of_lt (u2 _ z (Nat.zero_le _) (by omega) ez)
              have cnt2 : na1 + at2 ≤ na2 + nb2 := by omega
              have gtz : 1 < at2 := by omega
              have ltz : at2 ≤ b.size := by omega
              clear u2 u3 e4 e5
              generalize out1.push xb ++ (b.extract at2 (nb' - 1)).reverse = out2 at *
              generalize at2 = nbz at *
              refine wpS_bind (wp_elem exa1 ?_)
              have mi3 := pushA out2 na1 nbz xa1 mi2 q1 (by omega) exa1 up2
              by_cases d1 : (na1 - 1 == 0) = true
              · rw [if_pos d1]
                exact wpS_pure ⟨hS3, .inl ⟨_, _, rfl, doneB _ _ _ mi3 (.inl (by simpa using d1))⟩⟩
              rw [if_neg d1]
              have d1' : na1 - 1 ≠ 0 := by simpa using d1
              have hL4 : HiA key a b (out2.push xa1) (na1 - 1) nbz := ⟨mi3, by omega, by omega, by omega, by omega⟩
              split
              · exact wpS_pure ⟨hS3, .inr ⟨_, _, _, _, _, _, rfl, hL4, by omega⟩⟩
              · exact wpS_pure ⟨hS3, _, _, _, _, _, _, rfl, hL4, by omega⟩
            · rw [if_neg hk2]
              have mi2 := mi1b
              have up2 : ∀ z, 0 < nb' - 1 → b[nb' - 1 - 1]? = some z → Le key z xa1 := fun z _ ez => Le.of_lt (u2 _ z (Nat.zero_le _) (by omega) ez)
              have cnt2 : na1 + (nb' - 1) ≤ na2 + nb2 := by omega
              have gtz : 1 < nb' - 1 := by omega
              have ltz : nb' - 1 ≤ b.size := by omega
              clear u2 u3 mi1b hk2 u1
              generalize out1.push xb = out2 at *
              generalize nb' - 1 = nbz at *
              refine wpS_bind (wp_elem exa1 ?_)
              have mi3 := pushA out2 na1 nbz xa1 mi2 q1 (by omega) exa1 up2
              by_cases d1 : (na1 - 1 == 0) = true
              · rw [if_pos d1]
                exact wpS_pure ⟨hS3, .inl ⟨_, _, rfl, doneB _ _ _ mi3 (.inl (by simpa using d1))⟩⟩
              rw [if_neg d1]
              have d1' : na1 - 1 ≠ 0 := by simpa using d1
              have hL4 : HiA key a b (out2.push xa1) (na1 - 1) nbz := ⟨mi3, by omega, by omega, by omega, by omega⟩
              split
              · exact wpS_pure ⟨hS3, .inr ⟨_, _, _, _, _, _, rfl, hL4, by omega⟩⟩
              · exact wpS_pure ⟨hS3, _, _, _, _, _, _, rfl, hL4, by omega⟩
end
end L3
set_option Elab.async false
set_option linter.all false
set_option maxRecDepth 100000
set_option maxHeartbeats 4000000
set_option autoImplicit false
namespace L3
open PySem PySem.Spec L2
open PyProof.Rows hiding St
def kA (key : Keyed → List Int) (arr : Array Keyed) (i : Nat) : List Int := match arr[i]? with
  | some x => key x
  | none => []
structure Fr (lo hi : Nat) (st st' : SortSt) : Prop where
  kind : kindOf st' = kindOf st
  pend : pendingOf st' = pendingOf st
  failed : failedOf st' = failedOf st
  perm : (arrOf st').Perm (arrOf st)
  same : ∀ i, (i < lo ∨ hi ≤ i) → (arrOf st')[i]? = (arrOf st)[i]?
theorem Fr.refl {lo hi : Nat} (st : SortSt) : Fr lo hi st st := ⟨rfl, rfl, rfl, Array.Perm.refl _, fun _ _ => rfl⟩
theorem Fr.trans {lo hi : Nat} {a b c : SortSt} (h1 : Fr lo hi a b) (h2 : Fr lo hi b c) : Fr lo hi a c :=
  ⟨h2.kind.trans h1.kind, h2.pend.trans h1.pend, h2.failed.trans h1.failed, h2.perm.trans h1.perm, fun i hi => (h2.same i hi).trans (h1.same i hi)⟩
theorem Fr.size {lo hi : Nat} {a b : SortSt} (h : Fr lo hi a b) : (arrOf b).size = (arrOf a).size := h.perm.size_eq
section
variable {key : Keyed → List Int}
theorem kA_at {arr : Array Keyed} {i : Nat} {x : Keyed} (h : arr[i]? = some x) : kA key arr i = key x := by unfold kA; rw [h]
theorem kA_congr {a b : Array Keyed} {i j : Nat} (h : a[i]? = b[j]?) : kA key a i = kA key b j := by unfold kA; rw [h]
def Up2 (key : Keyed → List Int) (arr : Array Keyed) (lo hi : Nat) : Prop := ∀ i j, lo ≤ i → i ≤ j → j < hi → ll (kA key arr j) (kA key arr i) = false
def Dn2 (key : Keyed → List Int) (arr : Array Keyed) (lo hi : Nat) : Prop := ∀ i j, lo ≤ i → i ≤ j → j < hi → ll (kA key arr i) (kA key arr j) = false
theorem Up2.seg {arr : Array Keyed} {lo hi : Nat} (h : Up2 key arr lo hi) : SegS key arr lo hi := fun i j x y h1 h2 h3 ex ey => by
  have := h i j h1 h2 h3
  rw [kA_at ex, kA_at ey] at this
  exact this
theorem SegS.up {arr : Array Keyed} {lo hi : Nat} (h : SegS key arr lo hi) (hz : hi ≤ arr.size) : Up2 key arr lo hi := fun i j h1 h2 h3 => by
  obtain ⟨x, ex, _⟩ := at_of (arr := arr) (i := i) (by omega)
  obtain ⟨y, ey, _⟩ := at_of (arr := arr) (i := j) (by omega)
  rw [kA_at ex, kA_at ey]
  exact h i j x y h1 h2 h3 ex ey
theorem SegS.congr {a b : Array Keyed} {lo hi : Nat} (h : SegS key a lo hi) (e : ∀ i, lo ≤ i → i < hi → b[i]? = a[i]?) : SegS key b lo hi := fun i j x y h1 h2 h3 ex ey =>
  h i j x y h1 h2 h3 (by rw [← e i h1 (by omega)]; exact ex) (by rw [← e j (by omega) h3]; exact ey)
theorem Up2.step {arr : Array Keyed} {lo x : Nat} (h : Up2 key arr lo x) (hl : lo < x) (c : ll (kA key arr x) (kA key arr (x - 1)) = false) : Up2 key arr lo (x + 1) := fun i j h1 h2 h3 => by
  by_cases hj : j < x
  · exact h i j h1 h2 hj
  · have : j = x := by omega
    subst this
    by_cases hi : i = j
    · subst hi; exact ll_irr _
    · exact nl_trans (h i (j - 1) h1 (by omega) (by omega)) c
theorem Dn2.step {arr : Array Keyed} {lo x : Nat} (h : Dn2 key arr lo x) (hl : lo < x) (c : ll (kA key arr (x - 1)) (kA key arr x) = false) : Dn2 key arr lo (x + 1) := fun i j h1 h2 h3 => by
  by_cases hj : j < x
  · exact h i j h1 h2 hj
  · have : j = x := by omega
    subst this
    by_cases hi : i = j
    · subst hi; exact ll_irr _
    · exact nl_trans c (h i (j - 1) h1 (by omega) (by omega))
theorem Dn2.congr {a b : Array Keyed} {lo hi : Nat} (h : Dn2 key a lo hi) (e : ∀ k, kA key b k = kA key a k) : Dn2 key b lo hi := fun i j h1 h2 h3 => by rw [e, e]; exact h i j h1 h2 h3
theorem kA_mirror {arr : Array Keyed} {i j : Nat} (hj : j ≤ arr.size) (k : Nat) : kA key (mirror arr i j ((j - i) / 2)) k = if i ≤ k ∧ k < j then kA key arr (i + j - 1 - k) else kA key arr k := by
  have e := getElem?_mirror_all (xs := arr) (i := i) hj k
  split
  · rename_i h; rw [if_pos h] at e; exact kA_congr e
  · rename_i h; rw [if_neg h] at e; exact kA_congr e
theorem kA_mirror_eq {arr : Array Keyed} {i j : Nat} (hj : j ≤ arr.size) (h : ∀ a, i ≤ a → a < j → kA key arr a = kA key arr (j - 1)) (k : Nat) : kA key (mirror arr i j ((j - i) / 2)) k = kA key arr k := by
  rw [kA_mirror hj]
  split
  · rw [h _ (by omega) (by omega), h k (by omega) (by omega)]
  · rfl
theorem kA_bubble {arr : Array Keyed} {k d : Nat} (hk : k < arr.size) (hd : d ≤ k) (m : Nat) : kA key (bubble arr k d) m = if m = k - d then kA key arr k else if k - d < m ∧ m ≤ k then kA key arr (m - 1) else kA key arr m := by
  have e := getElem?_bubble (xs := arr) hk d hd m
  split
  · rename_i h; rw [if_pos h] at e; exact kA_congr e
  · rename_i h; rw [if_neg h] at e
    split
    · rename_i h2; rw [if_pos h2] at e; exact kA_congr e
    · rename_i h2; rw [if_neg h2] at e; exact kA_congr e
theorem Fr.mirror {lo hi i j : Nat} {st : SortSt} (h1 : lo ≤ i) (h2 : j ≤ hi) (hz : j ≤ (arrOf st).size) : Fr lo hi st (setArr st (mirror (arrOf st) i j ((j - i) / 2))) :=
  ⟨rfl, rfl, rfl, mirror_perm _ _ _ _, fun k hk => by
    show (PyProof.Rows.mirror (arrOf st) i j ((j - i) / 2))[k]? = (arrOf st)[k]?
    rw [getElem?_mirror_all hz, if_neg (by omega)]⟩
theorem Fr.bubble {lo hi k d : Nat} {st : SortSt} (h1 : lo + d ≤ k) (h2 : k < hi) (hz : k < (arrOf st).size) : Fr lo hi st (setArr st (bubble (arrOf st) k d)) :=
  ⟨rfl, rfl, rfl, bubble_perm _ _ _, fun m hm => by
    show (PyProof.Rows.bubble (arrOf st) k d)[m]? = (arrOf st)[m]?
    rw [getElem?_bubble hz d (by omega), if_neg (by omega), if_neg (by omega)]⟩
end
section
variable {M : Model} {A : Around} {E : Value → Shared → Prop} {s : Shared} {κ : SortKind} {key : Keyed → List Int} {P : Keyed → Prop}
theorem wp_rev {st : SortSt} {i j : Nat} {Q : Unit → SortSt → Prop} (h : Q () (setArr st (mirror (arrOf st) i j ((j - i) / 2)))) : wpS M A E s (reverseSlice' i j) Q st := by
  rw [reverseSlice'_eq]; exact wpS_modify h
theorem wp_down {st : SortSt} {i j : Nat} {Q : Unit → SortSt → Prop} (h : Q () (setArr st (bubble (arrOf st) i (i - j)))) : wpS M A E s (moveDown' i j) Q st := by
  rw [moveDown'_eq]; exact wpS_modify h
theorem wp_ltAt (hA : Asks M A E s κ key P) {st : SortSt} {i j : Nat} {Q : Option Bool → SortSt → Prop} (hk : kindOf st = κ) (hP : ∀ x ∈ (arrOf st).toList, P x) (hi : i < (arrOf st).size) (hj : j < (arrOf st).size)
    (h : Q (some (ll (kA key (arrOf st) i) (kA key (arrOf st) j))) st) : wpS M A E s (ltAt' i j) Q st := by
  obtain ⟨x, ex, mx⟩ := at_of (arr := arrOf st) hi
  obtain ⟨y, ey, my⟩ := at_of (arr := arrOf st) hj
  rw [kA_at ex, kA_at ey] at h
  rw [ltAt'_eq]
  refine wpS_bind (wpS_get ?_)
  exact wpS_bind (wp_elem ex (wpS_bind (wp_elem ey (hA x y st _ hk (hP x mx) (hP y my) h))))
theorem Fr.allP {lo hi : Nat} {a b : SortSt} (h : Fr lo hi a b) (hP : ∀ x ∈ (arrOf a).toList, P x) : ∀ x ∈ (arrOf b).toList, P x := fun x hx => hP x ((Array.perm_iff_toList_perm.mp h.perm).mem_iff.mp hx)
theorem wp_countRun (hA : Asks M A E s κ key P) {st : SortSt} {lo nrem : Nat} {Q : Option Nat → SortSt → Prop} (hk : kindOf st = κ) (hP : ∀ x ∈ (arrOf st).toList, P x) (h1 : 1 ≤ nrem) (hz : lo + nrem ≤ (arrOf st).size)
    (h : ∀ n st', 1 ≤ n → n ≤ nrem → Fr lo (lo + nrem) st st' → SegS key (arrOf st') lo (lo + n) → Q (some n) st') : wpS M A E s (countRun' lo nrem) Q st := by
  refine wpS_bind (wpS_mono (wpS_forRange (I := fun x c st' => st' = st ∧ c = (none, x) ∧ Up2 key (arrOf st) lo (lo + x))
    (Q := fun c st' => st' = st ∧ ∃ n, c = (none, n) ∧ 1 ≤ n ∧ n ≤ nrem ∧ Up2 key (arrOf st) lo (lo + n) ∧ (n = nrem ∨ ll (kA key (arrOf st) (lo + n)) (kA key (arrOf st) (lo + n - 1)) = true)) ?_ ?_
    ⟨rfl, rfl, fun i j q1 q2 q3 => by rw [show i = j by omega]; exact ll_irr _⟩) ?_)
  · rintro x c st' q1 q2 ⟨rfl, rfl, hu⟩
    dsimp only
    refine wpS_bind (wp_ltAt hA hk hP (by omega) (by omega) ?_)
    dsimp only
    cases c1 : ll (kA key (arrOf st') (lo + x)) (kA key (arrOf st') (lo + x - 1)) with
    | true => exact wpS_pure ⟨rfl, x, rfl, q1, by omega, hu, .inr c1⟩
    | false => exact wpS_pure ⟨rfl, rfl, hu.step (by omega) c1⟩
  · rintro c st' ⟨rfl, rfl, hu⟩
    rw [show max 1 nrem = nrem by omega] at hu ⊢
    exact ⟨rfl, nrem, rfl, h1, Nat.le_refl _, hu, .inl rfl⟩
  rintro c st' ⟨rfl, n, rfl, n1, n2, hu, hor⟩
  dsimp only
  by_cases e1 : (n == nrem) = true
  · rw [if_pos e1]
    exact wpS_pure (h n _ n1 n2 (Fr.refl _) hu.seg)
  rw [if_neg e1]
  have e1' : n ≠ nrem := by simpa using e1
  have hlt := hor.resolve_left e1'
  by_cases e2 : n > 1
  · rw [if_pos e2]
    refine wpS_bind (wp_ltAt hA hk hP (by omega) (by omega) ?_)
    dsimp only
    cases c1 : ll (kA key (arrOf st') lo) (kA key (arrOf st') (lo + n - 1)) with
    | true => exact wpS_pure (h n _ n1 n2 (Fr.refl _) hu.seg)
    | false =>
      rw [if_neg (by simp)]
      have all0 : ∀ a, lo ≤ a → a < lo + n → kA key (arrOf st') a = kA key (arrOf st') (lo + n - 1) := fun a q1 q2 =>
        ll_tri (nl_trans c1 (hu lo a (Nat.le_refl _) q1 q2)) (hu a (lo + n - 1) q1 (by omega) (by omega))
      have eqk := kA_mirror_eq (key := key) (arr := arrOf st') (i := lo) (j := lo + n) (by omega) all0
      refine wpS_bind (wp_rev ?_)
      have F0 : Fr lo (lo + nrem) st' (setArr st' (mirror (arrOf st') lo (lo + n) ((lo + n - lo) / 2))) := Fr.mirror (Nat.le_refl _) (by omega) (by omega)
      have D0 : Dn2 key (arrOf (setArr st' (mirror (arrOf st') lo (lo + n) ((lo + n - lo) / 2)))) lo (lo + (n + 1)) := by
        refine Dn2.congr (a := arrOf st') (fun i j q1 q2 q3 => ?_) eqk
        by_cases hj : j = lo + n
        · subst hj
          by_cases hi : i = lo + n
          · subst hi; exact ll_irr _
          · rw [all0 i q1 (by omega)]; exact ll_asym hlt
        · rw [all0 i q1 (by omega), all0 j (by omega) (by omega)]; exact ll_irr _
      generalize setArr st' (mirror (arrOf st') lo (lo + n) ((lo + n - lo) / 2)) = st0 at *
      have K0 := F0.kind.trans hk
      have Z0 := F0.size
      refine wpS_bind (wpS_lift (wpAny_rule ⟨rfl, ?_⟩))
      refine wpS_bind (wpS_mono (wpS_forRange
        (I := fun x c st1 => ∃ q, c = (none, x, q) ∧ Fr lo (lo + nrem) st' st1 ∧ Dn2 key (arrOf st1) lo (lo + x) ∧ q + 1 ≤ x ∧ ∀ i, lo + x - (q + 1) ≤ i → i < lo + x → kA key (arrOf st1) i = kA key (arrOf st1) (lo + x - 1))
        (Q := fun c st1 => ∃ m q, c = (none, m, q) ∧ n + 1 ≤ m ∧ m ≤ nrem ∧ Fr lo (lo + nrem) st' st1 ∧ Dn2 key (arrOf st1) lo (lo + m) ∧ q + 1 ≤ m ∧ ∀ i, lo + m - (q + 1) ≤ i → i < lo + m → kA key (arrOf st1) i = kA key (arrOf st1) (lo + m - 1))
        ?_ ?_ ⟨0, rfl, F0, D0, by omega, fun i q1 q2 => by rw [show i = lo + (n + 1) - 1 by omega]⟩) ?_)
      · rintro x c st1 x1 x2 ⟨q, rfl, F1, D1, hq, heq⟩
        dsimp only
        have K1 := F1.kind.trans hk
        have Z1 := F1.size
        refine wpS_bind (wp_ltAt hA K1 (F1.allP hP) (by omega) (by omega) ?_)
        dsimp only
        cases c2 : ll (kA key (arrOf st1) (lo + x)) (kA key (arrOf st1) (lo + x - 1)) with
        | true =>
          rw [if_pos rfl]
          have D2 : Dn2 key (arrOf st1) lo (lo + x + 1) := D1.step (by omega) (ll_asym c2)
          by_cases hq0 : q > 0
          · rw [if_pos hq0]
            refine wpS_bind (wp_rev (wpS_pure ⟨0, rfl, F1.trans (Fr.mirror (by omega) (by omega) (by omega)), ?_, by omega, fun i q1 q2 => by rw [show i = lo + (x + 1) - 1 by omega]⟩))
            exact D2.congr (kA_mirror_eq (by omega) heq)
          · rw [if_neg hq0]
            exact wpS_pure ⟨0, rfl, F1, D2, by omega, fun i q1 q2 => by rw [show i = lo + (x + 1) - 1 by omega]⟩
        | false =>
          rw [if_neg (by simp)]
          refine wpS_bind (wp_ltAt hA K1 (F1.allP hP) (by omega) (by omega) ?_)
          dsimp only
          cases c3 : ll (kA key (arrOf st1) (lo + x - 1)) (kA key (arrOf st1) (lo + x)) with
          | true => exact wpS_pure ⟨x, q, rfl, x1, by omega, F1, D1, hq, heq⟩
          | false =>
            have ex : kA key (arrOf st1) (lo + x - 1) = kA key (arrOf st1) (lo + x) := ll_tri c3 c2
            refine wpS_pure ⟨q + 1, rfl, F1, D1.step (by omega) c3, by omega, fun i q1 q2 => ?_⟩
            rw [show lo + (x + 1) - 1 = lo + x by omega]
            by_cases hi : i = lo + x
            · rw [hi]
            · rw [← ex]; exact heq i (by omega) (by omega)
      · rintro c st1 ⟨q, rfl, F1, D1, hq, heq⟩
        rw [show max (n + 1) nrem = nrem by omega] at *
        exact ⟨nrem, q, rfl, by omega, Nat.le_refl _, F1, D1, hq, heq⟩
      rintro c st1 ⟨m, q, rfl, m1, m2, F1, D1, hq, heq⟩
      dsimp only
      have Z1 := F1.size
      have last : ∀ st2, Fr lo (lo + nrem) st' st2 → Dn2 key (arrOf st2) lo (lo + m) → ∀ st3, st3 = setArr st2 (mirror (arrOf st2) lo (lo + m) ((lo + m - lo) / 2)) → Fr lo (lo + nrem) st' st3 ∧ Up2 key (arrOf st3) lo (lo + m) := fun st2 F2 D2 st3 e3 => by
        have Z2 := F2.size
        subst e3
        refine ⟨F2.trans (Fr.mirror (Nat.le_refl _) (by omega) (by omega)), fun i j q1 q2 q3 => ?_⟩
        show ll (kA key (mirror (arrOf st2) lo (lo + m) ((lo + m - lo) / 2)) j) (kA key (mirror (arrOf st2) lo (lo + m) ((lo + m - lo) / 2)) i) = false
        rw [kA_mirror (by omega), kA_mirror (by omega), if_pos (by omega), if_pos (by omega)]
        exact D2 _ _ (by omega) (by omega) (by omega)
      by_cases hq0 : q > 0
      case' pos =>
        rw [if_pos hq0]
        refine wpS_bind (wp_rev ?_)
        obtain ⟨F3, U3⟩ := last (setArr st1 (mirror (arrOf st1) (lo + m - (q + 1)) (lo + m) ((lo + m - (lo + m - (q + 1))) / 2))) (F1.trans (Fr.mirror (by omega) (by omega) (by omega))) (D1.congr (kA_mirror_eq (by omega) heq)) _ rfl
      case' neg =>
        rw [if_neg hq0]
        obtain ⟨F3, U3⟩ := last st1 F1 D1 _ rfl
      all_goals
        refine wpS_bind (wp_rev ?_)
        have Z3 := F3.size
        refine wpS_bind (wpS_mono (wpS_forRange (I := fun x c st4 => st4 = _ ∧ c = (none, x) ∧ Up2 key (arrOf st4) lo (lo + x))
          (Q := fun c st4 => Fr lo (lo + nrem) st' st4 ∧ ∃ n, c = (none, n) ∧ 1 ≤ n ∧ n ≤ nrem ∧ Up2 key (arrOf st4) lo (lo + n)) ?_ ?_ ⟨rfl, rfl, U3⟩) ?_)
        · rintro x c st4 q1 q2 ⟨rfl, rfl, hu⟩
          dsimp only
          refine wpS_bind (wp_ltAt hA (F3.kind.trans hk) (F3.allP hP) (by omega) (by omega) ?_)
          split
          · rename_i b eb
            cases eb
            split
            · exact wpS_pure ⟨F3, x, rfl, by omega, by omega, hu⟩
            · rename_i c5
              exact wpS_pure ⟨rfl, rfl, hu.step (by omega) (by simpa using c5)⟩
          · rename_i eb
            exact absurd rfl (eb _)
        · rintro c st4 ⟨rfl, rfl, hu⟩
          rw [show max m nrem = nrem by omega] at hu ⊢
          exact ⟨F3, nrem, rfl, h1, Nat.le_refl _, hu⟩
        · rintro c st4 ⟨F4, n', rfl, q1, q2, hu⟩
          exact wpS_pure (h n' _ q1 q2 F4 hu.seg)
  · rw [if_neg e2]
    have F0 : Fr lo (lo + nrem) st' st' := Fr.refl _
    have D0 : Dn2 key (arrOf st') lo (lo + (n + 1)) := fun i j q1 q2 q3 => by
      by_cases hi : i = j
      · subst hi; exact ll_irr _
      · have e3 : i = lo + n - 1 := by omega
        have e4 : j = lo + n := by omega
        subst e3; subst e4
        exact ll_asym hlt
    obtain ⟨st0, est0⟩ : ∃ x, x = st' := ⟨_, rfl⟩
    have F0 : Fr lo (lo + nrem) st' st0 := by rw [est0]; exact Fr.refl _
    rw [← est0] at D0
    rw [show wpS M A E s _ Q st' = wpS M A E s _ Q st0 from by rw [est0]]
    have K0 := F0.kind.trans hk
    have Z0 := F0.size
    refine wpS_bind (wpS_lift (wpAny_rule ⟨rfl, ?_⟩))
    refine wpS_bind (wpS_mono (wpS_forRange
      (I := fun x c st1 => ∃ q, c = (none, x, q) ∧ Fr lo (lo + nrem) st' st1 ∧ Dn2 key (arrOf st1) lo (lo + x) ∧ q + 1 ≤ x ∧ ∀ i, lo + x - (q + 1) ≤ i → i < lo + x → kA key (arrOf st1) i = kA key (arrOf st1) (lo + x - 1))
      (Q := fun c st1 => ∃ m q, c = (none, m, q) ∧ n + 1 ≤ m ∧ m ≤ nrem ∧ Fr lo (lo + nrem) st' st1 ∧ Dn2 key (arrOf st1) lo (lo + m) ∧ q + 1 ≤ m ∧ ∀ i, lo + m - (q + 1) ≤ i → i < lo + m → kA key (arrOf st1) i = kA key (arrOf st1) (lo + m - 1))
      ?_ ?_ ⟨0, rfl, F0, D0, by omega, fun i q1 q2 => by rw [show i = lo + (n + 1) - 1 by omega]⟩) ?_)
    · rintro x c st1 x1 x2 ⟨q, rfl, F1, D1, hq, heq⟩
      dsimp only
      have K1 := F1.kind.trans hk
      have Z1 := F1.size
      refine wpS_bind (wp_ltAt hA K1 (F1.allP hP) (by omega) (by omega) ?_)
      dsimp only
      cases c2 : ll (kA key (arrOf st1) (lo + x)) (kA key (arrOf st1) (lo + x - 1)) with
      | true =>
        rw [if_pos rfl]
        have D2 : Dn2 key (arrOf st1) lo (lo + x + 1) := D1.step (by omega) (ll_asym c2)
        by_cases hq0 : q > 0
        · rw [if_pos hq0]
          refine wpS_bind (wp_rev (wpS_pure ⟨0, rfl, F1.trans (Fr.mirror (by omega) (by omega) (by omega)), ?_, by omega, fun i q1 q2 => by rw [show i = lo + (x + 1) - 1 by omega]⟩))
          exact D2.congr (kA_mirror_eq (by omega) heq)
        · rw [if_neg hq0]
          exact wpS_pure ⟨0, rfl, F1, D2, by omega, fun i q1 q2 => by rw [show i = lo + (x + 1) - 1 by omega]⟩
      | false =>
        rw [if_neg (by simp)]
        refine wpS_bind (wp_ltAt hA K1 (F1.allP hP) (by omega) (by omega) ?_)
        dsimp only
        cases c3 : ll (kA key (arrOf st1) (lo + x - 1)) (kA key (arrOf st1) (lo + x)) with
        | true => exact wpS_pure ⟨x, q, rfl, x1, by omega, F1, D1, hq, heq⟩
        | false =>
          have ex : kA key (arrOf st1) (lo + x - 1) = kA key (arrOf st1) (lo + x) := ll_tri c3 c2
          refine wpS_pure ⟨q + 1, rfl, F1, D1.step (by omega) c3, by omega, fun i q1 q2 => ?_⟩
          rw [show lo + (x + 1) - 1 = lo + x by omega]
          by_cases hi : i = lo + x
          · rw [hi]
          · rw [← ex]; exact heq i (by omega) (by omega)
    · rintro c st1 ⟨q, rfl, F1, D1, hq, heq⟩
      rw [show max (n + 1) nrem = nrem by omega] at *
      exact ⟨nrem, q, rfl, by omega, Nat.le_refl _, F1, D1, hq, heq⟩
    rintro c st1 ⟨m, q, rfl, m1, m2, F1, D1, hq, heq⟩
    dsimp only
    have Z1 := F1.size
    have last : ∀ st2, Fr lo (lo + nrem) st' st2 → Dn2 key (arrOf st2) lo (lo + m) → ∀ st3, st3 = setArr st2 (mirror (arrOf st2) lo (lo + m) ((lo + m - lo) / 2)) → Fr lo (lo + nrem) st' st3 ∧ Up2 key (arrOf st3) lo (lo + m) := fun st2 F2 D2 st3 e3 => by
      have Z2 := F2.size
      subst e3
      refine ⟨F2.trans (Fr.mirror (Nat.le_refl _) (by omega) (by omega)), fun i j q1 q2 q3 => ?_⟩
      show ll (kA key (mirror (arrOf st2) lo (lo + m) ((lo + m - lo) / 2)) j) (kA key (mirror (arrOf st2) lo (lo + m) ((lo + m - lo) / 2)) i) = false
      rw [kA_mirror (by omega), kA_mirror (by omega), if_pos (by omega), if_pos (by omega)]
      exact D2 _ _ (by omega) (by omega) (by omega)
    by_cases hq0 : q > 0
    case' pos =>
      rw [if_pos hq0]
      refine wpS_bind (wp_rev ?_)
      obtain ⟨F3, U3⟩ := last (setArr st1 (mirror (arrOf st1) (lo + m - (q + 1)) (lo + m) ((lo + m - (lo + m - (q + 1))) / 2))) (F1.trans (Fr.mirror (by omega) (by omega) (by omega))) (D1.congr (kA_mirror_eq (by omega) heq)) _ rfl
    case' neg =>
      rw [if_neg hq0]
      obtain ⟨F3, U3⟩ := last st1 F1 D1 _ rfl
    all_goals
      refine wpS_bind (wp_rev ?_)
      have Z3 := F3.size
      refine wpS_bind (wpS_mono (wpS_forRange (I := fun x c st4 => st4 = _ ∧ c = (none, x) ∧ Up2 key (arrOf st4) lo (lo + x))
        (Q := fun c st4 => Fr lo (lo + nrem) st' st4 ∧ ∃ n, c = (none, n) ∧ 1 ≤ n ∧ n ≤ nrem ∧ Up2 key (arrOf st4) lo (lo + n)) ?_ ?_ ⟨rfl, rfl, U3⟩) ?_)
      · rintro x c st4 q1 q2 ⟨rfl, rfl, hu⟩
        dsimp only
        refine wpS_bind (wp_ltAt hA (F3.kind.trans hk) (F3.allP hP) (by omega) (by omega) ?_)
        split
        · rename_i b eb
          cases eb
          split
          · exact wpS_pure ⟨F3, x, rfl, by omega, by omega, hu⟩
          · rename_i c5
            exact wpS_pure ⟨rfl, rfl, hu.step (by omega) (by simpa using c5)⟩
        · rename_i eb
          exact absurd rfl (eb _)
      · rintro c st4 ⟨rfl, rfl, hu⟩
        rw [show max m nrem = nrem by omega] at hu ⊢
        exact ⟨F3, nrem, rfl, h1, Nat.le_refl _, hu⟩
      · rintro c st4 ⟨F4, n', rfl, q1, q2, hu⟩
        exact wpS_pure (h n' _ q1 q2 F4 hu.seg)
theorem wp_binarySort (hA : Asks M A E s κ key P) {st : SortSt} {lo n ok : Nat} {Q : Bool → SortSt → Prop} (hk : kindOf st = κ) (hP : ∀ x ∈ (arrOf st).toList, P x) (h1 : 1 ≤ ok) (hok : ok ≤ n) (hz : lo + n ≤ (arrOf st).size)
    (hs : SegS key (arrOf st) lo (lo + ok)) (h : ∀ st', Fr lo (lo + n) st st' → SegS key (arrOf st') lo (lo + n) → Q true st') : wpS M A E s (binarySort' lo n ok) Q st := by
  refine wpS_bind (wpS_mono (wpS_forRange (I := fun k c st' => c = (none, ()) ∧ Fr lo (lo + n) st st' ∧ Up2 key (arrOf st') lo (lo + k))
    (Q := fun c st' => c = (none, ()) ∧ Fr lo (lo + n) st st' ∧ Up2 key (arrOf st') lo (lo + n)) ?_ ?_ ⟨rfl, Fr.refl _, by rw [show max ok 1 = ok by omega]; exact hs.up (by omega)⟩) ?_)
  · rintro k c st1 k1 k2 ⟨rfl, F1, U1⟩
    have Z1 := F1.size
    dsimp only
    refine wpS_bind (wpS_mono (wpS_forRange (I := fun x c st2 => st2 = st1 ∧ ∃ l r, c = (none, l, r) ∧ l ≤ r ∧ r ≤ k ∧ r - l ≤ k - x ∧
        (∀ i, i < l → ll (kA key (arrOf st1) (lo + k)) (kA key (arrOf st1) (lo + i)) = false) ∧ (∀ i, r ≤ i → i < k → ll (kA key (arrOf st1) (lo + k)) (kA key (arrOf st1) (lo + i)) = true))
      (Q := fun c st2 => st2 = st1 ∧ ∃ l r, c = (none, l, r) ∧ l ≤ k ∧
        (∀ i, i < l → ll (kA key (arrOf st1) (lo + k)) (kA key (arrOf st1) (lo + i)) = false) ∧ (∀ i, l ≤ i → i < k → ll (kA key (arrOf st1) (lo + k)) (kA key (arrOf st1) (lo + i)) = true)) ?_ ?_
      ⟨rfl, 0, k, rfl, by omega, by omega, by omega, fun i hi => by omega, fun i h1 h2 => by omega⟩) ?_)
    · rintro x c st2 _ hx ⟨rfl, l, r, rfl, q1, q2, q3, q4, q5⟩
      dsimp only
      by_cases hlr : l ≥ r
      · rw [if_pos hlr]
        exact wpS_pure ⟨rfl, l, r, rfl, by omega, q4, fun i u1 u2 => q5 i (by omega) u2⟩
      · rw [if_neg hlr]
        refine wpS_bind (wp_ltAt hA (F1.kind.trans hk) (F1.allP hP) (by omega) (by omega) ?_)
        dsimp only
        cases c1 : ll (kA key (arrOf st2) (lo + k)) (kA key (arrOf st2) (lo + (l + r) / 2)) with
        | true => exact wpS_pure ⟨rfl, l, (l + r) / 2, rfl, by omega, by omega, by omega, q4, fun i u1 u2 => ll_of_le c1 (U1 _ _ (by omega) (by omega) (by omega))⟩
        | false => exact wpS_pure ⟨rfl, (l + r) / 2 + 1, r, rfl, by omega, by omega, by omega, fun i u1 => nl_trans (U1 (lo + i) (lo + (l + r) / 2) (by omega) (by omega) (by omega)) c1, q5⟩
    · rintro c st2 ⟨rfl, l, r, rfl, q1, q2, q3, q4, q5⟩
      exact ⟨rfl, l, r, rfl, by omega, q4, fun i u1 u2 => q5 i (by omega) u2⟩
    · rintro c st2 ⟨rfl, l, r, rfl, q1, q4, q5⟩
      dsimp only
      refine wpS_bind (wp_down (wpS_pure ⟨rfl, F1.trans (Fr.bubble (by omega) (by omega) (by omega)), ?_⟩))
      intro i j u1 u2 u3
      have hd : lo + k - (lo + k - (lo + l)) = lo + l := by omega
      have at_l : kA key (bubble (arrOf st2) (lo + k) (lo + k - (lo + l))) (lo + l) = kA key (arrOf st2) (lo + k) := by rw [kA_bubble (by omega) (by omega), hd, if_pos rfl]
      have at_g : ∀ m, lo + l < m → m ≤ lo + k → kA key (bubble (arrOf st2) (lo + k) (lo + k - (lo + l))) m = kA key (arrOf st2) (m - 1) := fun m w1 w2 => by rw [kA_bubble (by omega) (by omega), hd, if_neg (by omega), if_pos ⟨w1, w2⟩]
      have at_s : ∀ m, m < lo + l → kA key (bubble (arrOf st2) (lo + k) (lo + k - (lo + l))) m = kA key (arrOf st2) m := fun m w1 => by rw [kA_bubble (by omega) (by omega), hd, if_neg (by omega), if_neg (by omega)]
      show ll (kA key (bubble (arrOf st2) (lo + k) (lo + k - (lo + l))) j) (kA key (bubble (arrOf st2) (lo + k) (lo + k - (lo + l))) i) = false
      rcases Nat.lt_trichotomy i (lo + l) with hi | hi | hi
      · rw [at_s i hi]
        rcases Nat.lt_trichotomy j (lo + l) with hj | hj | hj
        · rw [at_s j hj]; exact U1 i j u1 u2 (by omega)
        · rw [hj, at_l]
          have := q4 (i - lo) (by omega)
          rwa [show lo + (i - lo) = i by omega] at this
        · rw [at_g j hj (by omega)]; exact U1 i (j - 1) u1 (by omega) (by omega)
      · rw [hi, at_l]
        rcases Nat.lt_trichotomy j (lo + l) with hj | hj | hj
        · omega
        · rw [hj, at_l]; exact ll_irr _
        · rw [at_g j hj (by omega)]
          have := q5 (j - 1 - lo) (by omega) (by omega)
          rw [show lo + (j - 1 - lo) = j - 1 by omega] at this
          exact ll_asym this
      · rw [at_g i hi (by omega), at_g j (by omega) (by omega)]
        exact U1 (i - 1) (j - 1) (by omega) (by omega) (by omega)
  · rintro c st1 ⟨rfl, F1, U1⟩
    rw [show max (max ok 1) n = n by omega] at U1
    exact ⟨rfl, F1, U1⟩
  · rintro c st1 ⟨rfl, F1, U1⟩
    exact wpS_pure (h st1 F1 U1.seg)
end
end L3
set_option Elab.async false
set_option linter.all false
set_option maxRecDepth 100000
set_option maxHeartbeats 4000000
set_option autoImplicit false
namespace L3
open PySem PySem.Spec L2
open PyProof.Rows hiding St
theorem over_at {l : List Keyed} {sa : Nat} {k : Nat} : ∀ (n : Nat) (arr : Array Keyed), sa + n + l.length ≤ arr.size →
    ((l.zipIdx n).foldl (fun a (x : Keyed × Nat) => match x with | (p, j) => a.setIfInBounds (sa + j) p) arr)[k]? = if sa + n ≤ k ∧ k < sa + n + l.length then l[k - sa - n]? else arr[k]? := by
  induction l with
  | nil => intro n arr _; rw [if_neg (by simp)]; rfl
  | cons x r ih =>
    intro n arr hz
    simp only [List.length_cons] at hz
    rw [List.zipIdx_cons, List.foldl_cons, ih (n + 1) _ (by rw [Array.size_setIfInBounds]; omega)]
    by_cases h1 : sa + (n + 1) ≤ k ∧ k < sa + (n + 1) + r.length
    · rw [if_pos h1, if_pos (by simp only [List.length_cons]; omega)]
      rw [show k - sa - n = (k - sa - (n + 1)) + 1 by omega, List.getElem?_cons_succ]
    · rw [if_neg h1, Array.getElem?_setIfInBounds]
      by_cases h2 : sa + n = k
      · rw [if_pos h2, if_pos (by omega), if_pos (by simp only [List.length_cons]; omega), show k - sa - n = 0 by omega]
        rfl
      · rw [if_neg h2, if_neg (by simp only [List.length_cons]; omega)]
theorem over_size {l : List Keyed} {sa : Nat} : ∀ (n : Nat) (arr : Array Keyed), ((l.zipIdx n).foldl (fun a (x : Keyed × Nat) => match x with | (p, j) => a.setIfInBounds (sa + j) p) arr).size = arr.size := by
  induction l with
  | nil => intro n arr; rfl
  | cons x r ih => intro n arr; rw [List.zipIdx_cons, List.foldl_cons, ih]; exact Array.size_setIfInBounds
theorem seg_ext {key : Keyed → List Int} {arr : Array Keyed} {lo hi : Nat} (h : SegS key arr lo hi) (hz : hi ≤ arr.size) : (arr.extract lo hi).toList.Pairwise (Le key) := by
  refine List.pairwise_iff_getElem.mpr fun i j hi hj hij => ?_
  simp at hi hj
  have e1 : arr[lo + i]? = some ((arr.extract lo _).toList[i]'(by simpa using hi)) := by
    have : lo + i < arr.size := by omega
    simp [this]
  have e2 : arr[lo + j]? = some ((arr.extract lo _).toList[j]'(by simpa using hj)) := by
    have : lo + j < arr.size := by omega
    simp [this]
  exact h (lo + i) (lo + j) _ _ (by omega) (by omega) (by omega) e1 e2
theorem pieces {arr : Array Keyed} {p q r : Nat} (h1 : p ≤ q) (h2 : q ≤ r) (h3 : r ≤ arr.size) : arr.toList = arr.toList.take p ++ ((arr.extract p q).toList ++ (arr.extract q r).toList) ++ arr.toList.drop r := by
  have e1 := take_ext (arr := arr) h1
  have e2 := take_ext (arr := arr) h2
  rw [← List.append_assoc, ← e1, ← e2, List.take_append_drop]
section
variable {M : Model} {A : Around} {E : Value → Shared → Prop} {s : Shared} {κ : SortKind} {key : Keyed → List Int} {P : Keyed → Prop}
theorem wp_set {st st2 : SortSt} {Q : PUnit → SortSt → Prop} (h : Q ⟨⟩ st2) : wpS M A E s (set st2 : StateT SortSt Sem PUnit) Q st := by
  unfold wpS; rw [StateT.run_set]; exact wpAny_pure ⟨rfl, h⟩
theorem wp_mergeAt (hA : Asks M A E s κ key P) {st : SortSt} {i sa na pw sb nb pw' : Nat} {Q : Bool → SortSt → Prop} (hk : kindOf st = κ) (hP : ∀ x ∈ (arrOf st).toList, P x) (hf : failedOf st = none)
    (e1 : (pendingOf st)[i]? = some (sa, na, pw)) (e2 : (pendingOf st)[i + 1]? = some (sb, nb, pw')) (hsb : sb = sa + na) (h1 : 0 < na) (h2 : 0 < nb) (hz : sb + nb ≤ (arrOf st).size)
    (S1 : SegS key (arrOf st) sa sb) (S2 : SegS key (arrOf st) sb (sb + nb))
    (h : ∀ st', kindOf st' = κ → failedOf st' = none → (arrOf st').Perm (arrOf st) → (∀ j, (j < sa ∨ sb + nb ≤ j) → (arrOf st')[j]? = (arrOf st)[j]?) → SegS key (arrOf st') sa (sb + nb) →
      pendingOf st' = ((pendingOf st).setIfInBounds i (sa, na + nb, pw)).eraseIdxIfInBounds (i + 1) → Q true st') : wpS M A E s (mergeAt' i) Q st := by
  refine wpS_bind (wpS_get ?_)
  rw [e1, e2]
  dsimp only
  have Z := hz
  obtain ⟨b0, eb0, mb0⟩ := at_of (arr := arrOf st) (i := sb) (by omega)
  refine wpS_bind (wp_set ?_)
  refine wpS_bind (wp_elem eb0 ?_)
  have hza : sa + na ≤ (arrOf st).size := by omega
  refine wpS_bind (wp_gallopR hA hk (hP _ mb0) hza hP (by rw [← hsb]; exact S1) h1 fun k k1 k2 k3 => ?_)
  dsimp only
  by_cases c1 : (na - k == 0) = true
  · rw [if_pos c1]
    have c1' : na - k = 0 := by simpa using c1
    refine wpS_pure (h _ hk hf (Array.Perm.refl _) (fun _ _ => rfl) (fun u v x y q1 q2 q3 ex ey => ?_) rfl)
    rcases Nat.lt_or_ge v sb with hv | hv
    · exact S1 u v x y q1 q2 hv ex ey
    · rcases Nat.lt_or_ge u sb with hu | hu
      · exact (k2 u x q1 (by omega) ex).trans (S2 sb v b0 y (Nat.le_refl _) hv q3 eb0 ey)
      · exact S2 u v x y hu q2 q3 ex ey
  rw [if_neg c1]
  have c1' : na - k ≠ 0 := by simpa using c1
  obtain ⟨al, eal, mal⟩ := at_of (arr := arrOf st) (i := sa + k + (na - k) - 1) (by omega)
  have eal' : (arrOf st)[sb - 1]? = some al := by rw [show sb - 1 = sa + k + (na - k) - 1 by omega]; exact eal
  refine wpS_bind (wp_elem eal ?_)
  refine wpS_bind (wp_gallopL hA hk (hP _ mal) hz hP S2 (by omega) fun n n1 n2 n3 => ?_)
  dsimp only
  by_cases c2 : (n == 0) = true
  · rw [if_pos c2]
    have c2' : n = 0 := by simpa using c2
    refine wpS_pure (h _ hk hf (Array.Perm.refl _) (fun _ _ => rfl) (fun u v x y q1 q2 q3 ex ey => ?_) rfl)
    rcases Nat.lt_or_ge v sb with hv | hv
    · exact S1 u v x y q1 q2 hv ex ey
    · rcases Nat.lt_or_ge u sb with hu | hu
      · exact (S1 u (sb - 1) x al q1 (by omega) (by omega) ex eal').trans (n3 v y (by omega) q3 ey)
      · exact S2 u v x y hu q2 q3 ex ey
  rw [if_neg c2]
  have c2' : n ≠ 0 := by simpa using c2
  have zx : ((arrOf st).extract (sa + k) sb).size = sb - (sa + k) := by rw [Array.size_extract]; omega
  have zy : ((arrOf st).extract sb (sb + n)).size = n := by rw [Array.size_extract]; omega
  have px : ∀ x ∈ ((arrOf st).extract (sa + k) sb).toList, P x := fun x hx => by
    obtain ⟨j, _, _, j3, ej⟩ := mem_ext hx
    obtain ⟨_, rfl⟩ := Array.getElem?_eq_some_iff.mp ej
    exact hP _ (by simp)
  have py : ∀ x ∈ ((arrOf st).extract sb (sb + n)).toList, P x := fun x hx => by
    obtain ⟨j, _, _, j3, ej⟩ := mem_ext hx
    obtain ⟨_, rfl⟩ := Array.getElem?_eq_some_iff.mp ej
    exact hP _ (by simp)
  have sx : ((arrOf st).extract (sa + k) sb).toList.Pairwise (Le key) := seg_ext (fun u v x y q1 q2 q3 => S1 u v x y (by omega) q2 q3) (by omega)
  have sy : ((arrOf st).extract sb (sb + n)).toList.Pairwise (Le key) := seg_ext (fun u v x y q1 q2 q3 => S2 u v x y q1 q2 (by omega)) (by omega)
  have fst0 : ∀ y, ((arrOf st).extract sb (sb + n))[0]? = some y → ∀ x ∈ ((arrOf st).extract (sa + k) sb).toList, Le key y x := fun y ey x hx => by
    rw [Array.getElem?_extract, if_pos (by omega)] at ey
    have : y = b0 := by
      have e : (arrOf st)[sb + 0]? = some y := ey
      rw [Nat.add_zero, eb0] at e; cases e; rfl
    subst this
    obtain ⟨j, j1, j2, j3, ej⟩ := mem_ext hx
    exact Le.of_lt (k3 j x j1 (by omega) ej)
  have lst0 : ∀ z, ((arrOf st).extract (sa + k) sb)[((arrOf st).extract (sa + k) sb).size - 1]? = some z → ∀ y ∈ ((arrOf st).extract sb (sb + n)).toList, Le key y z := fun z ez y hy => by
    rw [zx, Array.getElem?_extract, if_pos (by omega), show sa + k + (sb - (sa + k) - 1) = sb - 1 by omega, eal'] at ez
    cases ez
    obtain ⟨j, j1, j2, j3, ej⟩ := mem_ext hy
    exact Le.of_lt (n2 j y j1 j2 ej)
  have fin : ∀ (r : Array Keyed) (st1 : SortSt), Sm st st1 ∨ True → kindOf st1 = κ → failedOf st1 = none → arrOf st1 = arrOf st → pendingOf st1 = ((pendingOf st).setIfInBounds i (sa, na + nb, pw)).eraseIdxIfInBounds (i + 1) →
      MOk key ((arrOf st).extract (sa + k) sb).toList ((arrOf st).extract sb (sb + n)).toList r.toList →
      Q (failedOf st1).isNone (setArr st1 (r.toList.zipIdx.foldl (fun a (x : Keyed × Nat) => match x with | (p, j) => a.setIfInBounds (sa + k + j) p) (arrOf st1))) := fun r st1 _ K1 F1 A1 P1 hr => by
    rw [F1]
    have zr : r.toList.length = sb + n - (sa + k) := by
      have := hr.1.length_eq
      rw [List.length_append, Array.length_toList, Array.length_toList, Array.length_toList, zx, zy] at this
      rw [Array.length_toList]; omega
    have at_ : ∀ j, (r.toList.zipIdx.foldl (fun a (x : Keyed × Nat) => match x with | (p, j) => a.setIfInBounds (sa + k + j) p) (arrOf st))[j]? = if sa + k ≤ j ∧ j < sb + n then r.toList[j - (sa + k)]? else (arrOf st)[j]? := fun j => by
      have := over_at (l := r.toList) (sa := sa + k) (k := j) 0 (arrOf st) (by omega)
      rw [this, zr]
      by_cases hj : sa + k ≤ j ∧ j < sb + n
      · rw [if_pos (by omega), if_pos hj, Nat.sub_zero]
      · rw [if_neg (by omega), if_neg hj]
    have zo := over_size (l := r.toList) (sa := sa + k) 0 (arrOf st)
    refine h _ K1 F1 ?_ (fun j hj => ?_) (fun u v x y q1 q2 q3 ex ey => ?_) P1
    · show (r.toList.zipIdx.foldl _ (arrOf st1)).Perm (arrOf st)
      rw [A1]
      refine Array.perm_iff_toList_perm.mpr ?_
      have e : (r.toList.zipIdx.foldl (fun a (x : Keyed × Nat) => match x with | (p, j) => a.setIfInBounds (sa + k + j) p) (arrOf st)).toList = (arrOf st).toList.take (sa + k) ++ r.toList ++ (arrOf st).toList.drop (sb + n) := by
        apply List.ext_getElem?
        intro j
        rw [Array.getElem?_toList, at_ j, List.getElem?_append, List.getElem?_append]
        have zt : ((arrOf st).toList.take (sa + k)).length = sa + k := by rw [List.length_take, Array.length_toList]; omega
        rw [List.length_append, zt, zr]
        by_cases hj : sa + k ≤ j ∧ j < sb + n
        · rw [if_pos hj, if_pos (by omega), if_neg (by omega)]
        · rw [if_neg hj]
          by_cases hj2 : j < sa + k
          · rw [if_pos (by omega), if_pos hj2, List.getElem?_take, if_pos hj2, Array.getElem?_toList]
          · rw [if_neg (by omega), List.getElem?_drop, Array.getElem?_toList]
            congr 1; omega
      rw [e]
      conv => rhs; rw [pieces (arr := arrOf st) (p := sa + k) (q := sb) (r := sb + n) (by omega) (by omega) (by omega)]
      exact (hr.1.append_left _).append_right _
    · show (r.toList.zipIdx.foldl _ (arrOf st1))[j]? = _
      rw [A1, at_ j, if_neg (by omega)]
    ·
      have ex' : (r.toList.zipIdx.foldl _ (arrOf st1))[u]? = some x := ex
      have ey' : (r.toList.zipIdx.foldl _ (arrOf st1))[v]? = some y := ey
      rw [A1, at_ u] at ex'
      rw [A1, at_ v] at ey'
      have from_ : ∀ {j : Nat} {z : Keyed}, r.toList[j]? = some z → ∃ t, sa + k ≤ t ∧ t < sb + n ∧ (arrOf st)[t]? = some z := fun {j z} ez => by
        have mz : z ∈ r.toList := List.mem_of_getElem? ez
        rcases List.mem_append.mp (hr.1.mem_iff.mp mz) with q | q
        · obtain ⟨t, t1, t2, t3, et⟩ := mem_ext q; exact ⟨t, t1, by omega, et⟩
        · obtain ⟨t, t1, t2, t3, et⟩ := mem_ext q; exact ⟨t, by omega, t2, et⟩
      have lowA : ∀ {u t : Nat} {x z : Keyed}, sa ≤ u → u < sa + k → u ≤ t → t < sb + nb → (arrOf st)[u]? = some x → (arrOf st)[t]? = some z → Le key x z := fun {u t x z} q1 q2 q3 q4 ex ez => by
        rcases Nat.lt_or_ge t sb with ht | ht
        · exact S1 u t x z q1 q3 ht ex ez
        · exact (k2 u x q1 q2 ex).trans (S2 sb t b0 z (Nat.le_refl _) ht q4 eb0 ez)
      have highB : ∀ {u t : Nat} {x z : Keyed}, sa ≤ u → u ≤ t → sb + n ≤ t → t < sb + nb → (arrOf st)[u]? = some x → (arrOf st)[t]? = some z → Le key x z := fun {u t x z} q1 q2 q3 q4 ex ez => by
        rcases Nat.lt_or_ge u sb with hu | hu
        · exact (S1 u (sb - 1) x al q1 (by omega) (by omega) ex eal').trans (n3 t z q3 q4 ez)
        · exact S2 u t x z hu q2 q4 ex ez
      by_cases cu : sa + k ≤ u ∧ u < sb + n
      · rw [if_pos cu] at ex'
        by_cases cv : sa + k ≤ v ∧ v < sb + n
        · rw [if_pos cv] at ey'
          have hs := hr.2
          rcases Nat.lt_or_ge u v with huv | huv
          · obtain ⟨hu', rfl⟩ := List.getElem?_eq_some_iff.mp ex'
            obtain ⟨hv', rfl⟩ := List.getElem?_eq_some_iff.mp ey'
            exact List.pairwise_iff_getElem.mp hs _ _ hu' hv' (by omega)
          · have : u = v := by omega
            subst this
            rw [ex'] at ey'; cases ey'; exact Le.refl _
        · rw [if_neg cv] at ey'
          obtain ⟨t, t1, t2, et⟩ := from_ ex'
          exact highB (by omega) (by omega) (by omega) q3 et ey'
      · rw [if_neg cu] at ex'
        by_cases cv : sa + k ≤ v ∧ v < sb + n
        · rw [if_pos cv] at ey'
          obtain ⟨t, t1, t2, et⟩ := from_ ey'
          exact lowA q1 (by omega) (by omega) (by omega) ex' et
        · rw [if_neg cv] at ey'
          rcases Nat.lt_or_ge u (sa + k) with hu | hu
          · exact lowA q1 hu q2 q3 ex' ey'
          · exact highB q1 q2 (by omega) q3 ex' ey'
  have zx0 : 0 < ((arrOf st).extract (sa + k) sb).size := by omega
  have zy0 : 0 < ((arrOf st).extract sb (sb + n)).size := by omega
  by_cases c3 : na - k ≤ n
  · rw [if_pos c3]
    refine wpS_bind (wp_mergeLo hA hk px py zx0 zy0 sx sy fst0 lst0 fun r st1 hS hr => ?_)
    refine wpS_bind (wpS_modify (wpS_bind (wpS_get (wpS_pure ?_))))
    exact fin r st1 (.inr trivial) (hS.kind.trans hk) (hS.failed.trans hf) hS.arr hS.pend hr
  · rw [if_neg c3]
    refine wpS_bind (wp_mergeHi hA hk px py zx0 zy0 sx sy fst0 lst0 fun r st1 hS hr => ?_)
    refine wpS_bind (wpS_modify (wpS_bind (wpS_get (wpS_pure ?_))))
    exact fin r st1 (.inr trivial) (hS.kind.trans hk) (hS.failed.trans hf) hS.arr hS.pend hr
end
end L3
set_option Elab.async false
set_option linter.all false
set_option maxRecDepth 100000
set_option maxHeartbeats 4000000
set_option autoImplicit false
namespace L3
open PySem PySem.Spec L2
open PyProof.Rows hiding St
abbrev Pn := Nat × Nat × Nat
def Chain : List Pn → Nat → Nat → Prop
  | [], lo, hi => lo = hi
  | (s, n, _) :: r, lo, hi => s = lo ∧ 0 < n ∧ Chain r (lo + n) hi
theorem Chain.le : ∀ {l : List Pn} {lo hi : Nat}, Chain l lo hi → lo ≤ hi
  | [], _, _, h => Nat.le_of_eq h
  | (_, n, _) :: _, _, _, h => Nat.le_trans (Nat.le_add_right _ n) (Chain.le h.2.2)
theorem Chain.len : ∀ {l : List Pn} {lo hi : Nat}, Chain l lo hi → lo + l.length ≤ hi
  | [], _, _, h => Nat.le_of_eq h
  | (_, n, _) :: r, lo, hi, h => by
    have := Chain.len h.2.2
    have := h.2.1
    simp only [List.length_cons]; omega
theorem Chain.split : ∀ {l r : List Pn} {lo hi : Nat}, Chain (l ++ r) lo hi → ∃ m, Chain l lo m ∧ Chain r m hi
  | [], _, lo, _, h => ⟨lo, rfl, h⟩
  | (s, n, p) :: l, r, lo, hi, h => by
    obtain ⟨m, h1, h2⟩ := Chain.split (l := l) h.2.2
    exact ⟨m, ⟨h.1, h.2.1, h1⟩, h2⟩
theorem Chain.app : ∀ {l r : List Pn} {lo m hi : Nat}, Chain l lo m → Chain r m hi → Chain (l ++ r) lo hi
  | [], _, _, _, _, h1, h2 => by cases h1; exact h2
  | (s, n, p) :: l, r, lo, m, hi, h1, h2 => ⟨h1.1, h1.2.1, Chain.app h1.2.2 h2⟩
theorem Chain.mem : ∀ {l : List Pn} {lo hi : Nat}, Chain l lo hi → ∀ p ∈ l, lo ≤ p.1 ∧ 0 < p.2.1 ∧ p.1 + p.2.1 ≤ hi
  | [], _, _, _, _, hp => nomatch hp
  | (s, n, q) :: r, lo, hi, h, p, hp => by
    rcases List.mem_cons.mp hp with e | e
    · subst e
      have := Chain.le h.2.2
      exact ⟨Nat.le_of_eq h.1.symm, h.2.1, by show s + n ≤ hi; rw [h.1]; exact this⟩
    · have := Chain.mem h.2.2 p e
      exact ⟨by omega, this.2.1, this.2.2⟩
structure RnS (key : Keyed → List Int) (κ : SortKind) (a₀ : Array Keyed) (lo : Nat) (st : SortSt) : Prop where
  kind : kindOf st = κ
  failed : failedOf st = none
  perm : (arrOf st).Perm a₀
  chain : Chain (pendingOf st).toList 0 lo
  segs : ∀ p ∈ (pendingOf st).toList, SegS key (arrOf st) p.1 (p.1 + p.2.1)
section
variable {M : Model} {A : Around} {E : Value → Shared → Prop} {s : Shared} {κ : SortKind} {key : Keyed → List Int} {P : Keyed → Prop} {a₀ : Array Keyed}
theorem RnS.size {lo : Nat} {st : SortSt} (h : RnS key κ a₀ lo st) : (arrOf st).size = a₀.size := h.perm.size_eq
theorem RnS.allP {lo : Nat} {st : SortSt} (h : RnS key κ a₀ lo st) (hP : ∀ x ∈ a₀.toList, P x) : ∀ x ∈ (arrOf st).toList, P x := fun x hx => hP x ((Array.perm_iff_toList_perm.mp h.perm).mem_iff.mp hx)
theorem split_at {l : List Pn} {i : Nat} (h : i + 1 < l.length) : ∃ pre a b post, l = pre ++ a :: b :: post ∧ pre.length = i := by
  refine ⟨l.take i, l[i], l[i + 1], l.drop (i + 2), ?_, by rw [List.length_take]; omega⟩
  rw [← List.drop_eq_getElem_cons, ← List.drop_eq_getElem_cons, List.take_append_drop]
theorem wp_mergeRS (hA : Asks M A E s κ key P) (hP : ∀ x ∈ a₀.toList, P x) {lo : Nat} {st : SortSt} {i : Nat} {Q : Bool → SortSt → Prop} (hR : RnS key κ a₀ lo st) (hlo : lo ≤ a₀.size) (hi : i + 1 < (pendingOf st).size)
    (h : ∀ st', RnS key κ a₀ lo st' → (pendingOf st').size + 1 = (pendingOf st).size → (∀ j, lo ≤ j → (arrOf st')[j]? = (arrOf st)[j]?) → Q true st') : wpS M A E s (mergeAt' i) Q st := by
  obtain ⟨pre, ⟨sa, na, pa⟩, ⟨sb, nb, pb⟩, post, el, hl⟩ := split_at (l := (pendingOf st).toList) (i := i) (by simpa using hi)
  have hc := hR.chain
  rw [el] at hc
  obtain ⟨m, c1, c2⟩ := Chain.split hc
  obtain ⟨rfl, na0, rfl, nb0, c3⟩ := c2
  have hle := Chain.le c3
  have e1 : (pendingOf st)[i]? = some (sa, na, pa) := by rw [← Array.getElem?_toList, el, ← hl]; simp
  have e2 : (pendingOf st)[i + 1]? = some (sa + na, nb, pb) := by rw [← Array.getElem?_toList, el, ← hl]; simp
  have Z := hR.size
  have s1 := hR.segs (sa, na, pa) (by rw [el]; simp)
  have s2 := hR.segs (sa + na, nb, pb) (by rw [el]; simp)
  refine wp_mergeAt hA hR.kind (hR.allP hP) hR.failed e1 e2 rfl na0 nb0 (by omega) s1 s2 fun st' k' f' p' same seg pe => ?_
  have el' : (pendingOf st').toList = pre ++ (sa, na + nb, pa) :: post := by
    rw [pe, Array.toList_eraseIdxIfInBounds, Array.toList_setIfInBounds, el, ← hl]
    simp [List.set_append, List.eraseIdx_append]
    intro hc; omega
  refine h st' ⟨k', f', p'.trans hR.perm, ?_, fun p hp => ?_⟩ ?_ fun j hj => same j (.inr (by omega))
  · rw [el']
    exact Chain.app c1 ⟨rfl, by omega, by rw [← Nat.add_assoc]; exact c3⟩
  · rw [el'] at hp
    rcases List.mem_append.mp hp with q | q
    · have b1 := Chain.mem c1 p q
      exact (hR.segs p (by rw [el]; exact List.mem_append_left _ q)).congr fun j q1 q2 => same j (.inl (by omega))
    · rcases List.mem_cons.mp q with q | q
      · subst q
        show SegS key _ sa (sa + (na + nb))
        rw [← Nat.add_assoc]; exact seg
      · have b1 := Chain.mem c3 p q
        exact (hR.segs p (by rw [el]; exact List.mem_append_right _ (List.mem_cons_of_mem _ (List.mem_cons_of_mem _ q)))).congr fun j q1 q2 => same j (.inr (by omega))
  · have z1 : (pendingOf st').size = (pre ++ (sa, na + nb, pa) :: post).length := by rw [← el', Array.length_toList]
    have z2 : (pendingOf st).size = (pre ++ (sa, na, pa) :: (sa + na, nb, pb) :: post).length := by rw [← el, Array.length_toList]
    rw [z1, z2]; simp; omega
theorem chain_mod {f : Pn → Pn} (hf : ∀ p, (f p).1 = p.1 ∧ (f p).2.1 = p.2.1) : ∀ {l : List Pn} {i lo hi : Nat}, Chain l lo hi → Chain (l.modify i f) lo hi
  | [], i, _, _, h => by cases i <;> exact h
  | (s, n, p) :: r, 0, lo, hi, h => by
    have q := hf (s, n, p)
    show Chain (f (s, n, p) :: r) lo hi
    match e : f (s, n, p), q with
    | (s', n', p'), q => exact ⟨q.1.trans h.1, by rw [show n' = n from q.2]; exact h.2.1, by rw [show n' = n from q.2]; exact h.2.2⟩
  | (s, n, p) :: r, i + 1, lo, hi, h => ⟨h.1, h.2.1, chain_mod hf h.2.2⟩
theorem mem_mod {f : Pn → Pn} (hf : ∀ p, (f p).1 = p.1 ∧ (f p).2.1 = p.2.1) : ∀ {l : List Pn} {i : Nat} {p : Pn}, p ∈ l.modify i f → ∃ q ∈ l, p.1 = q.1 ∧ p.2.1 = q.2.1
  | [], i, p, h => by cases i <;> cases h
  | a :: r, 0, p, h => by
    rcases List.mem_cons.mp (show p ∈ f a :: r from h) with e | e
    · exact ⟨a, List.mem_cons_self, by rw [e]; exact hf a⟩
    · exact ⟨p, List.mem_cons_of_mem _ e, rfl, rfl⟩
  | a :: r, i + 1, p, h => by
    rcases List.mem_cons.mp (show p ∈ a :: r.modify i f from h) with e | e
    · exact ⟨a, List.mem_cons_self, by rw [e]; exact ⟨rfl, rfl⟩⟩
    · obtain ⟨q, hq, e1⟩ := mem_mod hf e
      exact ⟨q, List.mem_cons_of_mem _ hq, e1⟩
theorem RnS.pw {lo i : Nat} {f : Pn → Pn} {st : SortSt} (h : RnS key κ a₀ lo st) (hf : ∀ p, (f p).1 = p.1 ∧ (f p).2.1 = p.2.1) : RnS key κ a₀ lo (setPending st ((pendingOf st).modify i f)) :=
  ⟨h.kind, h.failed, h.perm, by
    show Chain ((pendingOf st).modify i f).toList 0 lo
    rw [Array.toList_modify]
    exact chain_mod hf h.chain, fun p hp => by
    have hp' : p ∈ ((pendingOf st).modify i f).toList := hp
    rw [Array.toList_modify] at hp'
    obtain ⟨q, hq, e1, e2⟩ := mem_mod hf hp'
    rw [e1, e2]
    exact h.segs q hq⟩
theorem wp_sortRuns (hA : Asks M A E s κ key P) {st : SortSt} {Q : Unit → SortSt → Prop} (hk : kindOf st = κ) (hf : failedOf st = none) (hp : pendingOf st = #[]) (hP : ∀ x ∈ (arrOf st).toList, P x)
    (h : ∀ st', failedOf st' = none → (arrOf st').Perm (arrOf st) → (arrOf st').toList.Pairwise (Le key) → Q () st') : wpS M A E s sortRuns' Q st := by
  obtain ⟨a₀, ea⟩ : ∃ x, x = arrOf st := ⟨_, rfl⟩
  have hP' : ∀ x ∈ a₀.toList, P x := by rw [ea]; exact hP
  refine wpS_bind (wpS_get ?_)
  dsimp only
  rw [show (arrOf st).size = a₀.size by rw [ea]]
  obtain ⟨mr, emr⟩ : ∃ x, x = minRun' a₀.size a₀.size 0 := ⟨_, rfl⟩
  rw [show (sortPriv% PySem.Builtin.minRun) a₀.size a₀.size 0 = mr from emr.symm]
  refine wpS_bind (wpS_mono (wpS_forRange
    (I := fun x c st' => ∃ lo, c = (none, lo) ∧ RnS key κ a₀ lo st' ∧ lo ≤ a₀.size ∧ min x a₀.size ≤ lo)
    (Q := fun c st' => c = (none, a₀.size) ∧ RnS key κ a₀ a₀.size st') ?step ?fin ⟨0, rfl, ⟨hk, hf, by rw [ea], by rw [hp]; exact rfl, by rw [hp]; exact fun _ hx => nomatch hx⟩, Nat.zero_le _, by omega⟩) ?post)
  case fin =>
    rintro c st' ⟨lo, rfl, hR, h1, h2⟩
    have : lo = a₀.size := by omega
    subst this
    exact ⟨rfl, hR⟩
  case step =>
    rintro x c st1 _ hx ⟨lo, rfl, hR, hlz, h2⟩
    dsimp only
    by_cases hlo : lo ≥ a₀.size
    · rw [if_pos hlo]
      have : lo = a₀.size := by omega
      subst this
      exact wpS_pure ⟨rfl, hR⟩
    rw [if_neg hlo]
    have Z1 := hR.size
    refine wpS_bind (wp_countRun hA hR.kind (hR.allP hP') (by omega) (by omega) fun n st2 n1 n2 F2 S2 => ?_)
    dsimp only
    have R2 : RnS key κ a₀ lo st2 := ⟨F2.kind.trans hR.kind, F2.failed.trans hR.failed, F2.perm.trans hR.perm, by rw [F2.pend]; exact hR.chain, fun p hp => by
      rw [F2.pend] at hp
      have b1 := Chain.mem hR.chain p hp
      exact (hR.segs p hp).congr fun j q1 q2 => F2.same j (.inl (by omega))⟩
    by_cases hn : n < mr
    · rw [if_pos hn]
      refine wpS_bind (wpS_lift (wpAny_rule ⟨rfl, ?_⟩))
      have Z2 := R2.size
      refine wpS_bind (wp_binarySort hA R2.kind (R2.allP hP') n1 (by omega) (by omega) S2 fun st3 F3 S3 => ?_)
      rw [if_neg (by simp)]
      have R3 : RnS key κ a₀ lo st3 := ⟨F3.kind.trans R2.kind, F3.failed.trans R2.failed, F3.perm.trans R2.perm, by rw [F3.pend]; exact R2.chain, fun p hp => by
        rw [F3.pend] at hp
        have b1 := Chain.mem R2.chain p hp
        exact (R2.segs p hp).congr fun j q1 q2 => F3.same j (.inl (by omega))⟩
      have nf1 : 1 ≤ min (a₀.size - lo) mr := by omega
      have nf2 : min (a₀.size - lo) mr ≤ a₀.size - lo := by omega
      clear S2 F2 F3 hn n1 n2
      generalize min (a₀.size - lo) (mr) = m at *
      have endp : ∀ st4, RnS key κ a₀ lo st4 → SegS key (arrOf st4) lo (lo + m) → RnS key κ a₀ (lo + m) (setPending st4 ((pendingOf st4).push (lo, m, 0))) := fun st4 R4 S4 =>
        ⟨R4.kind, R4.failed, R4.perm, by
          show Chain ((pendingOf st4).push (lo, m, 0)).toList 0 (lo + m)
          rw [Array.toList_push]
          exact Chain.app R4.chain ⟨rfl, nf1, rfl⟩, fun p hp => by
          have hp' : p ∈ ((pendingOf st4).push (lo, m, 0)).toList := hp
          rw [Array.toList_push] at hp'
          rcases List.mem_append.mp hp' with q | q
          · exact R4.segs p q
          · rw [List.mem_singleton.mp q]; exact S4⟩
      refine wpS_bind (wpS_get ?_)
      cases eb : (pendingOf st3).back? with
      | none =>
        dsimp only
        exact wpS_bind (wpS_modify (wpS_pure ⟨_, rfl, endp st3 R3 S3, by omega, by omega⟩))
      | some pb =>
        obtain ⟨s1, n1, p1⟩ := pb
        dsimp only
        refine wpS_bind (wpS_mono (wpS_forRange
          (I := fun _ c st' => c = (none, ()) ∧ RnS key κ a₀ lo st' ∧ SegS key (arrOf st') lo (lo + m))
          (Q := fun c st' => c = (none, ()) ∧ RnS key κ a₀ lo st' ∧ SegS key (arrOf st') lo (lo + m)) ?_ (fun _ _ q => q) ⟨rfl, R3, S3⟩) ?_)
        · rintro y c st4 _ hy ⟨rfl, R4, S4⟩
          refine wpS_bind (wpS_get ?_)
          try dsimp only
          by_cases h1 : (pendingOf st4).size > 1
          · rw [if_pos h1]
            have hlt : (pendingOf st4).size - 2 < (pendingOf st4).size := by omega
            rw [getElem?_pos (pendingOf st4) _ hlt]
            have hlt2 : (pendingOf st4).size - 2 + 1 < (pendingOf st4).size := by omega
            dsimp only
            split
            · exact wpS_pure ⟨rfl, R4, S4⟩
            · refine wpS_bind (wp_mergeRS hA hP' R4 hlz hlt2 fun st5 R5 _ s5 => ?_)
              rw [if_neg (by simp)]
              exact wpS_pure ⟨rfl, R5, S4.congr fun j q1 _ => s5 j q1⟩
          · rw [if_neg h1]
            exact wpS_pure ⟨rfl, R4, S4⟩
        · rintro c st4 ⟨rfl, R4, S4⟩
          try dsimp only
          refine wpS_bind (wpS_modify (wpS_bind (wpS_modify (wpS_pure ⟨_, rfl, endp _ ?_ S4, by omega, by omega⟩))))
          exact R4.pw fun _ => ⟨rfl, rfl⟩
    · rw [if_neg hn]
      obtain ⟨st3, est⟩ : ∃ x, x = st2 := ⟨_, rfl⟩
      rw [← est] at R2 S2 ⊢
      have R3 := R2
      have S3 := S2
      have nf1 := n1
      have nf2 := n2
      clear S2 F2 hn n1 n2 R2
      generalize n = m at *
      have endp : ∀ st4, RnS key κ a₀ lo st4 → SegS key (arrOf st4) lo (lo + m) → RnS key κ a₀ (lo + m) (setPending st4 ((pendingOf st4).push (lo, m, 0))) := fun st4 R4 S4 =>
        ⟨R4.kind, R4.failed, R4.perm, by
          show Chain ((pendingOf st4).push (lo, m, 0)).toList 0 (lo + m)
          rw [Array.toList_push]
          exact Chain.app R4.chain ⟨rfl, nf1, rfl⟩, fun p hp => by
          have hp' : p ∈ ((pendingOf st4).push (lo, m, 0)).toList := hp
          rw [Array.toList_push] at hp'
          rcases List.mem_append.mp hp' with q | q
          · exact R4.segs p q
          · rw [List.mem_singleton.mp q]; exact S4⟩
      refine wpS_bind (wpS_get ?_)
      cases eb : (pendingOf st3).back? with
      | none =>
        dsimp only
        exact wpS_bind (wpS_modify (wpS_pure ⟨_, rfl, endp st3 R3 S3, by omega, by omega⟩))
      | some pb =>
        obtain ⟨s1, n1, p1⟩ := pb
        dsimp only
        refine wpS_bind (wpS_mono (wpS_forRange
          (I := fun _ c st' => c = (none, ()) ∧ RnS key κ a₀ lo st' ∧ SegS key (arrOf st') lo (lo + m))
          (Q := fun c st' => c = (none, ()) ∧ RnS key κ a₀ lo st' ∧ SegS key (arrOf st') lo (lo + m)) ?_ (fun _ _ q => q) ⟨rfl, R3, S3⟩) ?_)
        · rintro y c st4 _ hy ⟨rfl, R4, S4⟩
          refine wpS_bind (wpS_get ?_)
          try dsimp only
          by_cases h1 : (pendingOf st4).size > 1
          · rw [if_pos h1]
            have hlt : (pendingOf st4).size - 2 < (pendingOf st4).size := by omega
            rw [getElem?_pos (pendingOf st4) _ hlt]
            have hlt2 : (pendingOf st4).size - 2 + 1 < (pendingOf st4).size := by omega
            dsimp only
            split
            · exact wpS_pure ⟨rfl, R4, S4⟩
            · refine wpS_bind (wp_mergeRS hA hP' R4 hlz hlt2 fun st5 R5 _ s5 => ?_)
              rw [if_neg (by simp)]
              exact wpS_pure ⟨rfl, R5, S4.congr fun j q1 _ => s5 j q1⟩
          · rw [if_neg h1]
            exact wpS_pure ⟨rfl, R4, S4⟩
        · rintro c st4 ⟨rfl, R4, S4⟩
          try dsimp only
          refine wpS_bind (wpS_modify (wpS_bind (wpS_modify (wpS_pure ⟨_, rfl, endp _ ?_ S4, by omega, by omega⟩))))
          exact R4.pw fun _ => ⟨rfl, rfl⟩
  case post =>
    rintro c st1 ⟨rfl, R1⟩
    dsimp only
    refine wpS_bind (wpS_mono (wpS_forRange
      (I := fun x c st' => c = (none, ()) ∧ RnS key κ a₀ a₀.size st' ∧ (pendingOf st').size ≤ max 1 (a₀.size - x))
      (Q := fun c st' => c = (none, ()) ∧ RnS key κ a₀ a₀.size st' ∧ (pendingOf st').size ≤ 1) ?_ ?_ ⟨rfl, R1, ?_⟩) ?_)
    · rintro x c st2 _ hx ⟨rfl, R2, hsz⟩
      refine wpS_bind (wpS_get ?_)
      try dsimp only
      by_cases h1 : (pendingOf st2).size ≤ 1
      · rw [if_pos h1]; exact wpS_pure ⟨rfl, R2, h1⟩
      rw [if_neg h1]
      have t : ∀ (c : Prop) [Decidable c], (if c then (pendingOf st2).size - 2 - 1 else (pendingOf st2).size - 2) + 1 < (pendingOf st2).size := fun c _ => by
        split <;> omega
      refine wpS_bind (wp_mergeRS hA hP' R2 (Nat.le_refl _) (t _) fun st3 R3 z3 _ => ?_)
      · rw [if_neg (by simp)]
        exact wpS_pure ⟨rfl, R3, by omega⟩
    · rintro c st2 ⟨rfl, R2, hsz⟩
      exact ⟨rfl, R2, by omega⟩
    · have := Chain.len R1.chain
      rw [Array.length_toList] at this
      omega
    · rintro c st2 ⟨rfl, R2, hsz⟩
      dsimp only
      refine wpS_pure (h st2 R2.failed (by rw [← ea]; exact R2.perm) (segS_all.mpr ?_))
      have Z := R2.size
      have hc := R2.chain
      have hs := R2.segs
      match e : (pendingOf st2).toList, hc, hs with
      | [], hc, _ =>
        have : 0 = a₀.size := hc
        intro i j x y _ _ hj
        omega
      | [(s1, n1, p1)], hc, hs =>
        obtain ⟨rfl, _, hn⟩ := hc
        have hn' : 0 + n1 = a₀.size := hn
        have := hs _ List.mem_cons_self
        rw [Z, ← hn']
        exact this
      | _ :: _ :: _, _, _ =>
        have : (pendingOf st2).toList.length ≤ 1 := by rw [Array.length_toList]; exact hsz
        rw [e] at this
        simp at this
end
end L3
set_option Elab.async false
set_option linter.all false
set_option maxRecDepth 100000
set_option maxHeartbeats 4000000
set_option autoImplicit false
namespace L3
open PySem PySem.Spec L2
open PyProof.Rows hiding St
def encS (l : List Nat) : List Int := l.map (fun n : Nat => (n : Int)) ++ [-1]
mutual
def enc : PyData → List Int
  | .int i => [i]
  | .str x => encS x.cps.toList
  | .tuple xs => encL xs
  | _ => []
def encL : List PyData → List Int
  | [] => [0]
  | x :: r => 1 :: (enc x ++ encL r)
end
mutual
def okD : PyData → Bool
  | .int _ => true
  | .str _ => true
  | .tuple xs => okL xs
  | _ => false
def okL : List PyData → Bool
  | [] => true
  | x :: r => okD x && okL r
end
theorem ll_cons (x y : Int) (a b : List Int) : ll (x :: a) (y :: b) = if x = y then ll a b else decide (x < y) := HT.lexLt_cons ..
theorem lt_nats : ∀ (a b : List Nat) (r1 r2 : List Int), (a = b ∧ decide (a < b) = false) ∨ (a ≠ b ∧ ll (encS a ++ r1) (encS b ++ r2) = decide (a < b) ∧ ll (encS b ++ r2) (encS a ++ r1) = !decide (a < b))
  | [], [], _, _ => .inl ⟨rfl, by simp⟩
  | [], y :: b, r1, r2 => .inr ⟨(by simp), (by
    show ll (-1 :: r1) ((y : Int) :: (encS b ++ r2)) = _ ∧ ll ((y : Int) :: (encS b ++ r2)) (-1 :: r1) = _
    rw [ll_cons, ll_cons, if_neg (by omega), if_neg (by omega)]
    constructor <;> simp <;> omega)⟩
  | x :: a, [], r1, r2 => .inr ⟨(by simp), (by
    show ll ((x : Int) :: (encS a ++ r1)) (-1 :: r2) = _ ∧ ll (-1 :: r2) ((x : Int) :: (encS a ++ r1)) = _
    rw [ll_cons, ll_cons, if_neg (by omega), if_neg (by omega)]
    constructor <;> simp <;> omega)⟩
  | x :: a, y :: b, r1, r2 => by
    have e1 : encS (x :: a) ++ r1 = (x : Int) :: (encS a ++ r1) := rfl
    have e2 : encS (y :: b) ++ r2 = (y : Int) :: (encS b ++ r2) := rfl
    rw [e1, e2, ll_cons, ll_cons]
    by_cases h : x = y
    · subst h
      rw [if_pos rfl, if_pos rfl]
      have ed : decide (x :: a < x :: b) = decide (a < b) := by
        simp [List.cons_lt_cons_iff]
      rw [ed]
      rcases lt_nats a b r1 r2 with ⟨q, q2⟩ | q
      · exact .inl ⟨by rw [q], q2⟩
      · exact .inr ⟨fun e => q.1 (by cases e; rfl), q.2⟩
    · rw [if_neg (by omega), if_neg (by omega)]
      refine .inr ⟨fun e => h (by cases e; rfl), ?_⟩
      have ed : decide (x :: a < y :: b) = decide (x < y) := by
        simp [List.cons_lt_cons_iff, h]
      rw [ed]
      constructor
      · simp
      · by_cases q : x < y
        · simp [q]; omega
        · simp [q]; omega
mutual
theorem eqv_ok : ∀ (x y : PyData), okD x = true → okD y = true → PyData.eqv x y = true → x = y
  | .int i, .int j, _, _, h => by
    unfold PyData.eqv at h
    rw [eq_of_beq h]
  | .str x, .str y, _, _, h => by
    unfold PyData.eqv at h
    rw [eq_of_beq h]
  | .tuple xs, .tuple ys, h1, h2, h => by
    unfold PyData.eqv at h
    unfold okD at h1 h2
    rw [eqvAll_ok xs ys h1 h2 h]
  | .int _, .str _, _, _, h => by unfold PyData.eqv at h; cases h
  | .int _, .tuple _, _, _, h => by unfold PyData.eqv at h; cases h
  | .str _, .int _, _, _, h => by unfold PyData.eqv at h; cases h
  | .str _, .tuple _, _, _, h => by unfold PyData.eqv at h; cases h
  | .tuple _, .int _, _, _, h => by unfold PyData.eqv at h; cases h
  | .tuple _, .str _, _, _, h => by unfold PyData.eqv at h; cases h
  | .none, _, h, _, _ => by unfold okD at h; cases h
  | .bool _, _, h, _, _ => by unfold okD at h; cases h
  | .list _, _, h, _, _ => by unfold okD at h; cases h
  | .dict _, _, h, _, _ => by unfold okD at h; cases h
  | _, .none, _, h, _ => by unfold okD at h; cases h
  | _, .bool _, _, h, _ => by unfold okD at h; cases h
  | _, .list _, _, h, _ => by unfold okD at h; cases h
  | _, .dict _, _, h, _ => by unfold okD at h; cases h
theorem eqvAll_ok : ∀ (xs ys : List PyData), okL xs = true → okL ys = true → PyData.eqvAll xs ys = true → xs = ys
  | [], [], _, _, _ => rfl
  | [], _ :: _, _, _, h => by unfold PyData.eqvAll at h; cases h
  | _ :: _, [], _, _, h => by unfold PyData.eqvAll at h; cases h
  | x :: xs, y :: ys, h1, h2, h => by
    unfold PyData.eqvAll at h
    unfold okL at h1 h2
    rw [Bool.and_eq_true] at h h1 h2
    rw [eqv_ok x y h1.1 h2.1 h.1, eqvAll_ok xs ys h1.2 h2.2 h.2]
end
mutual
theorem eqv_refl : ∀ (x : PyData), okD x = true → PyData.eqv x x = true
  | .int i, _ => by unfold PyData.eqv; exact beq_self_eq_true i
  | .str x, _ => by unfold PyData.eqv; exact beq_self_eq_true x
  | .tuple xs, h => by unfold PyData.eqv; unfold okD at h; exact eqvAll_refl xs h
  | .none, h => by unfold okD at h; cases h
  | .bool _, h => by unfold okD at h; cases h
  | .list _, h => by unfold okD at h; cases h
  | .dict _, h => by unfold okD at h; cases h
theorem eqvAll_refl : ∀ (xs : List PyData), okL xs = true → PyData.eqvAll xs xs = true
  | [], _ => by unfold PyData.eqvAll; rfl
  | x :: r, h => by
    unfold PyData.eqvAll
    unfold okL at h
    rw [Bool.and_eq_true] at h
    rw [eqv_refl x h.1, eqvAll_refl r h.2]; rfl
end
mutual
theorem enc_cmp : ∀ (x y : PyData) (b : Bool), okD x = true → okD y = true → cD true x y = some b → ∀ r1 r2 : List Int,
    (x = y ∧ b = false) ∨ (x ≠ y ∧ ll (enc x ++ r1) (enc y ++ r2) = b ∧ ll (enc y ++ r2) (enc x ++ r1) = !b)
  | .int i, .int j, b, _, _, h, r1, r2 => by
    unfold cD cI at h
    cases h
    unfold enc
    show _ ∨ (_ ∧ ll (i :: r1) (j :: r2) = _ ∧ ll (j :: r2) (i :: r1) = _)
    rw [ll_cons, ll_cons]
    by_cases e : i = j
    · subst e; exact .inl ⟨rfl, by simp⟩
    · rw [if_neg e, if_neg (Ne.symm e)]
      refine .inr ⟨fun q => e (by cases q; rfl), by simp, ?_⟩
      by_cases q : i < j
      · simp [q]; omega
      · simp [q]; omega
  | .str x, .str y, b, _, _, h, r1, r2 => by
    unfold cD cS at h
    cases h
    unfold enc
    simp only [if_true]
    rcases lt_nats x.cps.toList y.cps.toList r1 r2 with ⟨q1, q2⟩ | q
    · have : x = y := by
        cases x; cases y
        congr 1
        exact Array.toList_inj.mp q1
      subst this
      exact .inl ⟨rfl, q2⟩
    · exact .inr ⟨fun e => q.1 (by cases e; rfl), q.2⟩
  | .tuple xs, .tuple ys, b, h1, h2, h, r1, r2 => by
    unfold cD at h
    unfold okD at h1 h2
    unfold enc
    rcases encL_cmp xs ys b h1 h2 h r1 r2 with ⟨q1, q2⟩ | ⟨q1, q2⟩
    · exact .inl ⟨by rw [q1], q2⟩
    · exact .inr ⟨fun e => q1 (by cases e; rfl), q2⟩
  | .int _, .str _, _, _, _, h, _, _ => by unfold cD at h; cases h
  | .int _, .tuple _, _, _, _, h, _, _ => by unfold cD at h; cases h
  | .str _, .int _, _, _, _, h, _, _ => by unfold cD at h; cases h
  | .str _, .tuple _, _, _, _, h, _, _ => by unfold cD at h; cases h
  | .tuple _, .int _, _, _, _, h, _, _ => by unfold cD at h; cases h
  | .tuple _, .str _, _, _, _, h, _, _ => by unfold cD at h; cases h
  | .none, _, _, h, _, _, _, _ => by unfold okD at h; cases h
  | .bool _, _, _, h, _, _, _, _ => by unfold okD at h; cases h
  | .list _, _, _, h, _, _, _, _ => by unfold okD at h; cases h
  | .dict _, _, _, h, _, _, _, _ => by unfold okD at h; cases h
  | _, .none, _, _, h, _, _, _ => by unfold okD at h; cases h
  | _, .bool _, _, _, h, _, _, _ => by unfold okD at h; cases h
  | _, .list _, _, _, h, _, _, _ => by unfold okD at h; cases h
  | _, .dict _, _, _, h, _, _, _ => by unfold okD at h; cases h
theorem encL_cmp : ∀ (xs ys : List PyData) (b : Bool), okL xs = true → okL ys = true → cL true xs ys = some b → ∀ r1 r2 : List Int,
    (xs = ys ∧ b = false) ∨ (xs ≠ ys ∧ ll (encL xs ++ r1) (encL ys ++ r2) = b ∧ ll (encL ys ++ r2) (encL xs ++ r1) = !b)
  | [], [], b, _, _, h, _, _ => by unfold cL at h; cases h; exact .inl ⟨rfl, rfl⟩
  | [], y :: ys, b, _, _, h, r1, r2 => by
    unfold cL at h; cases h
    refine .inr ⟨(by simp), ?_⟩
    unfold encL
    show ll (0 :: r1) (1 :: (enc y ++ encL ys ++ r2)) = _ ∧ ll (1 :: (enc y ++ encL ys ++ r2)) (0 :: r1) = _
    rw [ll_cons, ll_cons]
    exact ⟨rfl, rfl⟩
  | x :: xs, [], b, _, _, h, r1, r2 => by
    unfold cL at h; cases h
    refine .inr ⟨(by simp), ?_⟩
    unfold encL
    show ll (1 :: (enc x ++ encL xs ++ r1)) (0 :: r2) = _ ∧ ll (0 :: r2) (1 :: (enc x ++ encL xs ++ r1)) = _
    rw [ll_cons, ll_cons]
    exact ⟨rfl, rfl⟩
  | x :: xs, y :: ys, b, h1, h2, h, r1, r2 => by
    unfold cL at h
    unfold okL at h1 h2
    rw [Bool.and_eq_true] at h1 h2
    have e1 : encL (x :: xs) ++ r1 = 1 :: (enc x ++ (encL xs ++ r1)) := by rw [encL]; simp
    have e2 : encL (y :: ys) ++ r2 = 1 :: (enc y ++ (encL ys ++ r2)) := by rw [encL]; simp
    rw [e1, e2, ll_cons, ll_cons, if_pos rfl, if_pos rfl]
    by_cases e : PyData.eqv x y = true
    · rw [if_pos e] at h
      have exy := eqv_ok x y h1.1 h2.1 e
      subst exy
      have z : ∀ (l r1 r2 : List Int), ll (l ++ r1) (l ++ r2) = ll r1 r2 := fun l r1 r2 => by
        induction l with
        | nil => rfl
        | cons u l ih => show ll (u :: (l ++ r1)) (u :: (l ++ r2)) = _; rw [ll_cons, if_pos rfl]; exact ih
      rw [z, z]
      rcases encL_cmp xs ys b h1.2 h2.2 h r1 r2 with ⟨q1, q2⟩ | ⟨q1, q2⟩
      · exact .inl ⟨by rw [q1], q2⟩
      · exact .inr ⟨fun e => q1 (by cases e; rfl), q2⟩
    · rw [if_neg e] at h
      rcases enc_cmp x y b h1.1 h2.1 h (encL xs ++ r1) (encL ys ++ r2) with ⟨q1, q2⟩ | ⟨q1, q2⟩
      · subst q1
        exact absurd (eqv_refl x h1.1) e
      · exact .inr ⟨fun e => q1 (by cases e; rfl), q2⟩
end
theorem enc_lt {x y : PyData} {b : Bool} (h1 : okD x = true) (h2 : okD y = true) (h : cD true x y = some b) : ll (enc x) (enc y) = b := by
  rcases enc_cmp x y b h1 h2 h [] [] with ⟨q1, q2⟩ | ⟨_, q, _⟩
  · rw [q1, q2]; exact ll_irr _
  · simpa using q
theorem enc_inj {x y : PyData} (h1 : okD x = true) (h2 : okD y = true) (h : (cD true x y).isSome = true) (e : enc x = enc y) : x = y := by
  obtain ⟨b, hb⟩ := Option.isSome_iff_exists.mp h
  rcases enc_cmp x y b h1 h2 hb [] [] with ⟨q1, _⟩ | ⟨_, q1, q2⟩
  · exact q1
  · rw [e, ll_irr] at q1
    rw [e, ll_irr, ← q1] at q2
    cases q2
end L3
set_option Elab.async false
set_option linter.all false
set_option maxRecDepth 100000
set_option maxHeartbeats 4000000
set_option autoImplicit false
namespace L3
open PySem PySem.Spec L2
open PyProof.Rows hiding St
section
variable {prog : Program} {w : World} {A : Around} {E : Value → Shared → Prop} {s : Shared}
theorem zip_self (vs : List Value) : vs.zip vs = vs.map fun v => (v, v) := by
  induction vs with
  | nil => rfl
  | cons v r ih => rw [List.zip_cons_cons, ih]; rfl
theorem list_sort_any {a : Addr} {vs : List Value} {n : Nat} {P : PySem.Fin → Shared → Prop} {κ : SortKind} {key : Keyed → List Int} (ho : s.heap.get? a = some (seqObj "list" vs.toArray n)) (hz : vs.length ≤ 10000)
    (hk : ∀ (s' : Shared) (Q : SortKind → Shared → Prop) (E : Value → Shared → Prop), (∀ b o, b ≠ a → s.heap.get? b = some o → s'.heap.get? b = some o) → 2 ≤ vs.length → Q κ s' → wpAny (model prog w) A (keyKind' vs.toArray) Q E s')
    (hc : ∀ (s' : Shared) (u v : Value) (Q : Bool → Shared → Prop) (E : Value → Shared → Prop), (∀ b o, b ≠ a → s.heap.get? b = some o → s'.heap.get? b = some o) → u ∈ vs → v ∈ vs → Q (ll (key (u, u)) (key (v, v))) s' →
      wpAny (model prog w) A (keyLt' κ u v) Q E s')
    (h : ∀ out : List Value, out.Perm vs → out.Pairwise (fun u v => ll (key (v, v)) (key (u, u)) = false) → P (.done (.ret .none)) { s with heap := sortedHeap s.heap a vs out.toArray }) : wpAny (model prog w) A (Builtin.«list.sort» ⟨[.ref a], []⟩) P E s := by
  rw [list_sort_plain]
  have ha : a < s.heap.objs.size := Heap.lt_size ho
  refine wpAny_bind (listItems_at ho rfl ?_)
  refine wpAny_bind (listUpdate_at ho rfl ?_ (by rw [List.size_toArray, sizeLine_eq]; omega) (Nat.zero_le _))
  obtain ⟨c1, ho1⟩ : ∃ c1, (s.heap.update a (Obj.mapSeq fun _ => #[])).get? a = some (seqObj "list" #[] c1) := ⟨_, get?_update_seq ho (fun _ => #[])⟩
  refine wpAny_bind (seqEpoch_at ho1 rfl ?_)
  refine wpAny_bind (wpAny_newTuple ?_ (by show vs.length ≤ _; rw [sizeLine_eq]; omega))
  refine wpAny_bind (wpAny_newList ?_ (Nat.zero_le _))
  refine wpAny_holding ?_
  have keep : ∀ b o, b ≠ a → s.heap.get? b = some o → (((s.heap.update a (Obj.mapSeq fun _ => #[])).push (seqObj "tuple" vs.toArray 0)).push (seqObj "list" #[] 0)).get? b = some o := fun b o hb e =>
    Heap.get?_push_of_some _ (Heap.get?_push_of_some _ (by rw [Heap.get?_update_ne _ _ _ _ hb]; exact e))
  have ho3 : (((s.heap.update a (Obj.mapSeq fun _ => #[])).push (seqObj "tuple" vs.toArray 0)).push (seqObj "list" #[] 0)).get? a = some (seqObj "list" #[] c1) := Heap.get?_push_of_some _ (Heap.get?_push_of_some _ ho1)
  show wpAny (model prog w) A _ P E { s with heap := ((s.heap.update a (Obj.mapSeq fun _ => #[])).push (seqObj "tuple" vs.toArray 0)).push (seqObj "list" #[] 0) }
  dsimp only
  have hsz : vs.toArray.size = vs.length := List.size_toArray ..
  have ezl : (vs.toArray.zip vs.toArray).toList = vs.map fun v => (v, v) := by rw [← zip_self]; simp
  have fin : ∀ st' : SortSt, (arrOf st').Perm (vs.toArray.zip vs.toArray) → (arrOf st').toList.Pairwise (Le key) → failedOf st' = none →
      ∃ out : List Value, (arrOf st').map (·.2) = out.toArray ∧ out.length = vs.length ∧ P (.done (.ret .none)) { s with heap := sortedHeap s.heap a vs out.toArray } := fun st' hp hs hf => by
    have hp' : (arrOf st').toList.Perm (vs.map fun v => (v, v)) := by rw [← ezl]; exact Array.perm_iff_toList_perm.mp hp
    have hpo : ((arrOf st').toList.map (·.2)).Perm vs := by
      have := hp'.map (·.2)
      rwa [List.map_map, show (vs.map ((fun p : Keyed => p.2) ∘ fun v => (v, v))) = vs from by rw [show ((fun p : Keyed => p.2) ∘ fun v : Value => (v, v)) = id from rfl, List.map_id]] at this
    refine ⟨(arrOf st').toList.map (·.2), by apply Array.toList_inj.mp; simp, hpo.length_eq, h _ hpo ?_⟩
    refine List.pairwise_map.mpr (hs.imp_of_mem fun {x y} hx hy hxy => ?_)
    obtain ⟨u, _, eu⟩ := List.mem_map.mp (hp'.mem_iff.mp hx)
    obtain ⟨v, _, ev⟩ := List.mem_map.mp (hp'.mem_iff.mp hy)
    subst eu; subst ev
    exact hxy
  by_cases h2 : vs.length < 2
  · have h2' : vs.toArray.size < 2 := by omega
    rw [if_pos h2', if_pos h2']
    refine wpAny_bind (wpAny_pure ?_)
    rw [StateT.run_pure]
    refine wpAny_bind (wpAny_pure ?_)
    dsimp only
    obtain ⟨out, eo, zo, hP⟩ := fin (SortSt.mk' general' (vs.toArray.zip vs.toArray) #[] 7 none) (Array.Perm.refl _) (by
      show (vs.toArray.zip vs.toArray).toList.Pairwise (Le key)
      rw [ezl]
      match vs, h2 with
      | [], _ => exact List.Pairwise.nil
      | [v], _ => exact List.pairwise_singleton _ _
      | _ :: _ :: _, h => simp at h; omega) rfl
    refine wpAny_bind (seqEpoch_at ho3 rfl ?_)
    rw [eo]
    refine wpAny_bind (listUpdate_at ho3 rfl ?_ (Nat.zero_le _) (by rw [List.size_toArray, zo, sizeLine_eq]; omega))
    simp only [bne_self_eq_false, Bool.false_eq_true, if_false]
    exact wpAny_pure hP
  · have h2' : ¬ vs.toArray.size < 2 := by omega
    rw [if_neg h2', if_neg h2']
    refine wpAny_bind (hk _ _ _ keep (by omega) ?_)
    have asks : Asks (model prog w) A E { s with heap := ((s.heap.update a (Obj.mapSeq fun _ => #[])).push (seqObj "tuple" vs.toArray 0)).push (seqObj "list" #[] 0) } κ key (fun x => ∃ v ∈ vs, x = (v, v)) := fun x y st Q hkd ⟨u, hu, ex⟩ ⟨v, hv, ey⟩ hq => by
      subst ex; subst ey
      rw [lt'_eq]
      refine wpS_bind (wpS_get ?_)
      rw [hkd]
      refine wpS_bind (wpS_lift (wpAny_attempt (hc _ u v _ _ keep hu hv ⟨rfl, ?_⟩)))
      exact wpS_pure hq
    refine wpAny_bind (wpAny_mono (wp_sortRuns asks (st := SortSt.mk' κ (vs.toArray.zip vs.toArray) #[] 7 none) (Q := fun _ st' => failedOf st' = none ∧ ∃ out : List Value, (arrOf st').map (·.2) = out.toArray ∧ out.length = vs.length ∧ P (.done (.ret .none)) { s with heap := sortedHeap s.heap a vs out.toArray })
      rfl rfl rfl (fun x hx => ?_) fun st' a1 a2 a3 => ⟨a1, fin st' a2 a3 a1⟩) ?_ fun _ _ x => x)
    · have hx' : x ∈ (vs.toArray.zip vs.toArray).toList := hx
      rw [ezl] at hx'
      obtain ⟨v, hv, e⟩ := List.mem_map.mp hx'
      exact ⟨v, hv, e.symm⟩
    · rintro ⟨⟨⟩, st'⟩ s' ⟨rfl, hf, out, eo, zo, hP⟩
      dsimp only at hf eo ⊢
      refine wpAny_bind (seqEpoch_at ho3 rfl ?_)
      rw [eo]
      refine wpAny_bind (listUpdate_at ho3 rfl ?_ (Nat.zero_le _) (by rw [List.size_toArray, zo, sizeLine_eq]; omega))
      rw [hf]
      simp only [bne_self_eq_false, Bool.false_eq_true, if_false]
      exact wpAny_pure hP
theorem sorted_any {l : Addr} {vs : List Value} {Q : Value → Shared → Prop} {κ : SortKind} {key : Keyed → List Int} (hl : s.heap.IsList l vs.toArray) (hz : vs.length ≤ 10000)
    (hk : ∀ (A' : Around) (s' : Shared) (Q : SortKind → Shared → Prop) (E : Value → Shared → Prop), A'.units ≤ A.units + 2 → (∀ b o, s.heap.get? b = some o → s'.heap.get? b = some o) → 2 ≤ vs.length → Q κ s' → wpAny (model prog w) A' (keyKind' vs.toArray) Q E s')
    (hc : ∀ (A' : Around) (s' : Shared) (u v : Value) (Q : Bool → Shared → Prop) (E : Value → Shared → Prop), A'.units ≤ A.units + 2 → (∀ b o, s.heap.get? b = some o → s'.heap.get? b = some o) → u ∈ vs → v ∈ vs → Q (ll (key (u, u)) (key (v, v))) s' →
      wpAny (model prog w) A' (keyLt' κ u v) Q E s')
    (h : ∀ out : List Value, out.Perm vs → out.Pairwise (fun u v => ll (key (v, v)) (key (u, u)) = false) → Q (.ref (s.heap.objs.size + 1)) { s with heap := sortedAll s.heap vs out.toArray }) : wpAny (model prog w) A (call (.builtin "sorted") [.ref l]) Q E s := by
  refine Calls.call_function_entry kind_sorted plain_sorted entry_sorted (args_sorted1 _) ?_
  unfold Builtin.«sorted»
  refine wpAny_bind (m := checkCount "sorted" 1 1 _) (wpAny_pure ?_)
  refine wpAny_bind (collect_list hl ?_ (by rw [sizeLine_eq]; omega))
  refine wpAny_bind (wpAny_newList ?_ (by rw [sizeLine_eq]; omega))
  have z1 : ((s.heap.push (seqObj "list" #[] 0)).update s.heap.objs.size (Obj.mapSeq (· ++ vs.toArray))).objs.size = s.heap.objs.size + 1 := by rw [Heap.size_update, size_push']
  have hoL : (((s.heap.push (seqObj "list" #[] 0)).update s.heap.objs.size (Obj.mapSeq (· ++ vs.toArray))).push (seqObj "list" vs.toArray 0)).get? (s.heap.objs.size + 1) = some (seqObj "list" vs.toArray 0) := by
    rw [← z1]; exact Heap.get?_push_size _ rfl
  have keep : ∀ b o, s.heap.get? b = some o → (((s.heap.push (seqObj "list" #[] 0)).update s.heap.objs.size (Obj.mapSeq (· ++ vs.toArray))).push (seqObj "list" vs.toArray 0)).get? b = some o := fun b o e =>
    Heap.get?_push_of_some _ (by rw [Heap.get?_update_ne _ _ _ _ (Nat.ne_of_lt (Heap.lt_size e))]; exact Heap.get?_push_of_some _ e)
  show wpAny _ _ _ _ _ { s with heap := ((s.heap.push (seqObj "list" #[] 0)).update s.heap.objs.size (Obj.mapSeq (· ++ vs.toArray))).push (seqObj "list" vs.toArray 0) }
  rw [z1]
  have ne1 : ∀ b o, s.heap.get? b = some o → b ≠ s.heap.objs.size + 1 := fun b o e => Nat.ne_of_lt (Nat.lt_succ_of_lt (Heap.lt_size e))
  refine wpAny_bind (wpAny_holding (wpAny_call_entry slot_list_sort ⟨_, hoL, rfl⟩ entry_list_sort (list_sort_any (κ := κ) (key := key) hoL hz
    (fun s' Q' E' kp h2 q => hk _ s' Q' E' ?_ (fun b o e => kp b o (ne1 b o e) (keep b o e)) h2 q) (fun s' u v Q' E' kp hi hj q => hc _ s' u v Q' E' ?_ (fun b o e => kp b o (ne1 b o e) (keep b o e)) hi hj q) fun out o1 o2 => ?_) (args_list_sort _)))
  · exact Nat.le_refl _
  · exact Nat.le_refl _
  · exact ⟨_, rfl, wpAny_pure ⟨_, rfl, h out o1 o2⟩⟩
end
end L3
set_option Elab.async false
set_option linter.all false
set_option maxRecDepth 100000
set_option maxHeartbeats 4000000
set_option autoImplicit false
namespace L3
open PySem PySem.Spec L2
open PyProof.Rows hiding St
def insD (d : D) : List D → List D
  | [] => [d]
  | e :: r => if ll (enc d) (enc e) = true then d :: e :: r else e :: insD d r
def srtD : List D → List D
  | [] => []
  | d :: r => insD d (srtD r)
theorem insD_perm (d : D) : ∀ xs : List D, (insD d xs).Perm (d :: xs)
  | [] => .refl _
  | e :: r => by
    unfold insD
    split
    · exact .refl _
    · exact ((insD_perm d r).cons e).trans (.swap d e r)
theorem srtD_perm : ∀ xs : List D, (srtD xs).Perm xs
  | [] => .refl _
  | d :: r => (insD_perm d (srtD r)).trans ((srtD_perm r).cons d)
def OrdE (xs : List D) : Prop := xs.Pairwise fun a b => ll (enc b) (enc a) = false
theorem insD_ord (d : D) : ∀ {xs : List D}, OrdE xs → OrdE (insD d xs)
  | [], _ => by unfold insD OrdE; simp
  | e :: r, h => by
    have h' := List.pairwise_cons.mp h
    unfold insD
    split
    · rename_i c
      refine List.pairwise_cons.mpr ⟨fun x hx => ?_, h⟩
      rcases List.mem_cons.mp hx with q | q
      · subst q; exact ll_asym c
      · exact nl_trans (ll_asym c) (h'.1 x q)
    · rename_i c
      refine List.pairwise_cons.mpr ⟨fun x hx => ?_, insD_ord d h'.2⟩
      rcases List.mem_cons.mp ((insD_perm d r).mem_iff.mp hx) with q | q
      · subst q; simpa using c
      · exact h'.1 x q
theorem srtD_ord : ∀ xs : List D, OrdE (srtD xs)
  | [] => List.Pairwise.nil
  | d :: r => insD_ord d (srtD_ord r)
structure Cmp2 (ys : List D) : Prop where
  ok : ∀ y ∈ ys, okD y = true
  cmp : ∀ x ∈ ys, ∀ y ∈ ys, (cD true x y).isSome = true
  head : (∀ y ∈ ys, ∃ i r, y = .tuple (.int i :: r)) ∨ (∀ y ∈ ys, ∃ t r, y = .tuple (.str t :: r))
  deep : ∀ y ∈ ys, y.depth ≤ 50
  many : ys.length ≤ 10000
theorem ordE_one : ∀ {xs ys : List D}, xs.Perm ys → OrdE xs → OrdE ys → (∀ x ∈ xs, okD x = true) → (∀ x ∈ xs, ∀ y ∈ xs, (cD true x y).isSome = true) → xs = ys
  | [], ys, hp, _, _, _, _ => by rw [List.nil_perm.mp hp]
  | x :: xs, [], hp, _, _, _, _ => by have := hp.length_eq; simp at this
  | x :: xs, y :: ys, hp, h1, h2, hk, hc => by
    have p1 := List.pairwise_cons.mp h1
    have p2 := List.pairwise_cons.mp h2
    have exy : x = y := by
      by_cases e : x = y
      · exact e
      · have hx : x ∈ ys := by
          rcases List.mem_cons.mp (hp.mem_iff.mp List.mem_cons_self) with q | q
          · exact absurd q e
          · exact q
        have hy : y ∈ xs := by
          rcases List.mem_cons.mp (hp.mem_iff.mpr List.mem_cons_self) with q | q
          · exact absurd q.symm e
          · exact q
        have a1 := p1.1 y hy
        have a2 := p2.1 x hx
        exact enc_inj (hk x List.mem_cons_self) (hk y (List.mem_cons_of_mem _ hy)) (hc x List.mem_cons_self y (List.mem_cons_of_mem _ hy)) (ll_tri a2 a1)
    subst exy
    rw [ordE_one (List.Perm.cons_inv hp) p1.2 p2.2 (fun z hz => hk z (List.mem_cons_of_mem _ hz)) fun a ha b hb => hc a (List.mem_cons_of_mem _ ha) b (List.mem_cons_of_mem _ hb)]
open Classical in
noncomputable def gSrtA (xs : List DV) : M DV := match xs with
  | [x] => bd (op (asL x)) fun ys => if Cmp2 ys then rt (.new (srtD ys)) else none
  | _ => none
open Classical in
noncomputable def keyR (h : Heap) (p : Keyed) : List Int := if e : ∃ d : PyData, ∃ as, Reads h p.1 d as ∧ d.canLay0 = true then enc e.choose else []
theorem keyR_is {h : Heap} {v u : Value} {d : PyData} {as : List Addr} (r : Reads h v d as) (hl : d.canLay0 = true) : keyR h (v, u) = enc d := by
  unfold keyR
  have e : ∃ d : PyData, ∃ as, Reads h (v, u).1 d as ∧ d.canLay0 = true := ⟨d, as, r, hl⟩
  rw [dif_pos e]
  obtain ⟨as', r', hl'⟩ := e.choose_spec
  rw [PySem.SeqAt.Reads.unique _ _ _ _ _ hl' r' r]
theorem readsAll_mem {h : Heap} : ∀ {vs : List Value} {ds : List PyData} {as : List Addr}, ReadsAll h vs ds as → PyData.canLayAll0 ds = true → ∀ v ∈ vs, ∃ d ∈ ds, ∃ bs, Reads h v d bs ∧ d.canLay0 = true
  | _, _, _, .nil, _, _, hv => nomatch hv
  | _, _, _, .cons r rr, hl, v, hv => by
    unfold PyData.canLayAll0 at hl
    rw [Bool.and_eq_true] at hl
    rcases List.mem_cons.mp hv with e | e
    · subst e; exact ⟨_, List.mem_cons_self, _, r, hl.1⟩
    · obtain ⟨d, hd, bs, h1, h2⟩ := readsAll_mem rr hl.2 v e
      exact ⟨d, List.mem_cons_of_mem _ hd, bs, h1, h2⟩
theorem readsAll_keys {h : Heap} : ∀ {vs : List Value} {ds : List PyData} {as : List Addr}, ReadsAll h vs ds as → PyData.canLayAll0 ds = true → ∀ i, i < ds.length → ∃ bs, Reads h (vs.getD i Value.none) (ds.getD i .none) bs ∧ (ds.getD i .none).canLay0 = true
  | _, _, _, .nil, _, i, hi => absurd hi (Nat.not_lt_zero _)
  | _, _, _, .cons r rr, hl, 0, _ => by
    unfold PyData.canLayAll0 at hl
    rw [Bool.and_eq_true] at hl
    exact ⟨_, r, hl.1⟩
  | _, _, _, .cons r rr, hl, i + 1, hi => by
    unfold PyData.canLayAll0 at hl
    rw [Bool.and_eq_true] at hl
    exact readsAll_keys rr hl.2 i (Nat.lt_of_succ_lt_succ hi)
theorem tups_ofS {h : Heap} : ∀ (vs : List Value), (∀ v ∈ vs, ∃ b o its n x t, v = .ref b ∧ h.get? b = some o ∧ o.cls = .type "tuple" ∧ o.data = .seq its n ∧ its[0]? = some (.str x t)) → ∃ fs, PySem.W.KatTups h vs fs ∧ fs.length = vs.length ∧ ∀ f ∈ fs, ∃ x t, f = Value.str x t
  | [], _ => ⟨[], PySem.W.KatTups.nil, rfl, fun _ hf => nomatch hf⟩
  | v :: r, hv => by
    obtain ⟨b, o, its, n, x, t, rfl, eo, ec, ed, e0⟩ := hv v List.mem_cons_self
    obtain ⟨fs, h1, h2, h3⟩ := tups_ofS r fun u hu => hv u (List.mem_cons_of_mem _ hu)
    refine ⟨.str x t :: fs, PySem.W.KatTups.cons eo ec ed e0 h1, by simp [h2], fun f hf => ?_⟩
    rcases List.mem_cons.mp hf with e | e
    · exact ⟨x, t, e⟩
    · exact h3 f e
theorem lex_data {prog : Program} {w : World} {A : Around} {s : Shared} {Q : Bool → Shared → Prop} {X Y : Nat} : ∀ {vs ws : List Value} {xs ys : List PyData} {as bs : List Addr} {b : Bool} (i : Nat), ReadsAll s.heap vs xs as → ReadsAll s.heap ws ys bs →
    PyData.canLayAll0 xs = true → PyData.canLayAll0 ys = true → A.units + PyData.depthAll xs < cLine → vs.length + Y = ws.length + X →
    (i = 0 → (∃ u r v r', xs = .int u :: r ∧ ys = .int v :: r') ∨ (∃ u r v r', xs = .str u :: r ∧ ys = .str v :: r')) → cL true xs ys = some b → Q b s →
    PySem.W.KatLex prog w A true (decide (X < Y)) Q (vs.zip ws) i s
  | _, _, _, _, _, _, b, i, .nil, .nil, _, _, _, hl, _, hc, h => by
    unfold cL at hc; cases hc
    have : decide (X < Y) = false := decide_eq_false (by simp at hl; omega)
    rw [this]; exact h
  | _, _, _, _, _, _, b, i, .nil, .cons _ _, _, _, _, hl, _, hc, h => by
    unfold cL at hc; cases hc
    have : decide (X < Y) = true := decide_eq_true (by simp at hl; omega)
    rw [this]; exact h
  | _, _, _, _, _, _, b, i, .cons _ _, .nil, _, _, _, hl, _, hc, h => by
    unfold cL at hc; cases hc
    have : decide (X < Y) = false := decide_eq_false (by simp at hl; omega)
    rw [this]; exact h
  | _, _, x :: xs, y :: ys, _, _, b, i, .cons r1 rr1, .cons r2 rr2, l1, l2, hu, hl, hh, hc, h => by
    unfold PyData.canLayAll0 at l1 l2
    rw [Bool.and_eq_true] at l1 l2
    unfold cL at hc
    have hdc : PyData.depthAll (x :: xs) = max x.depth (PyData.depthAll xs) := by rw [PyData.depthAll]
    rw [hdc] at hu
    refine PySem.W.kat_cons (SeqAt.eqAt_reads x y A s _ _ _ _ r1 r2 l1.1 l2.1 (by omega) prog w _ _ ?_)
    cases e : PyData.eqv x y with
    | true =>
      rw [e, if_pos rfl] at hc
      exact PySem.W.kat_yes (lex_data (i + 1) rr1 rr2 l1.2 l2.2 (by omega) (by simp at hl; omega) (fun q => absurd q (Nat.succ_ne_zero _)) hc h)
    | false =>
      rw [e, if_neg Bool.false_ne_true] at hc
      refine PySem.W.kat_no ?_
      by_cases hi : i = 0
      · subst hi
        rcases hh rfl with ⟨u, r, v, r', e1, e2⟩ | ⟨u, r, v, r', e1, e2⟩
        · cases e1; cases e2
          cases r1; cases r2
          unfold cD cI at hc; cases hc
          exact oneLt_int h
        · cases e1; cases e2
          cases r1; cases r2
          unfold cD cS at hc; cases hc
          exact oneLt_str h
      · have : (true && i == 0) = false := by simp [hi]
        rw [this]
        refine PySem.W.kat_one _ _ ?_
        exact rcL_reads _ true x y A s _ _ _ _ b (Nat.lt_succ_self _) r1 r2 l1.1 l2.1 (by omega) hc prog w _ _ h
theorem perm_pick {α : Type} {d : α} : ∀ {xs ys : List α}, xs.Perm ys → ∃ is : List Nat, is.Perm (List.range ys.length) ∧ xs = is.map fun i => ys.getD i d := by
  intro xs ys h
  induction h with
  | nil => exact ⟨[], by simp, rfl⟩
  | @cons x l1 l2 h ih =>
    obtain ⟨is, h1, h2⟩ := ih
    refine ⟨0 :: is.map (· + 1), ?_, ?_⟩
    · rw [List.length_cons, List.range_succ_eq_map]
      exact (h1.map _).cons 0
    · rw [List.map_cons, List.map_map, h2]
      rfl
  | swap x y l =>
    refine ⟨1 :: 0 :: (List.range l.length).map (· + 2), ?_, ?_⟩
    · rw [List.length_cons, List.length_cons, List.range_succ_eq_map, List.range_succ_eq_map, List.map_cons, List.map_map]
      exact List.Perm.swap _ _ _
    · rw [List.map_cons, List.map_cons, List.map_map]
      show _ = y :: x :: _
      congr 1
      congr 1
      exact (range_pick d l).symm
  | @trans l1 l2 l3 ha hb iha ihb =>
    obtain ⟨is, h1, h2⟩ := iha
    obtain ⟨js, h3, h4⟩ := ihb
    have zl : js.length = l2.length := by rw [h4]; simp
    refine ⟨is.map fun i => js.getD i 0, ?_, ?_⟩
    · have := h1.map fun i => js.getD i 0
      rw [← zl, range_pick] at this
      exact this.trans h3
    · rw [List.map_map, h2]
      refine List.map_congr_left fun i hi => ?_
      have hlt : i < l2.length := List.mem_range.mp (h1.mem_iff.mp hi)
      have hlt' : i < js.length := by omega
      show l2.getD i d = l3.getD (js.getD i 0) d
      rw [h4]
      simp [hlt']
section
variable {X : Cx} {E : XK}
theorem cv_sortedA (hu : X.A.units + 64 < cLine) : CallV X E (.builtin "sorted") gSrtA := fun pins s σ O P H₀ H xs vs us r Q I hd hs rx rv e q => by
  unfold gSrtA at e
  split at e
  · obtain ⟨ys, e1, e2⟩ := bd_op e
    split at e2
    · rename_i hz
      cases e2
      cases rx with
      | cons r1 rr =>
        cases rr
        obtain ⟨a, ws, rfl, ha, l⟩ := r1.list e1
        cases rv with
        | cons q1 q2 =>
          cases q2
          cases q1
          obtain ⟨its, ri, pl, hzz⟩ := I.list (SqL.of ha)
          have hlen : its.length = ys.length := by rw [← ri.length, l.length]
          obtain ⟨as, ra⟩ := RpL.reads I l ri
          have la := l.lay
          have item : ∀ v ∈ its, ∃ d ∈ ys, ∃ bs, Reads s.heap v d bs ∧ d.canLay0 = true := readsAll_mem ra la
          refine sorted_any (κ := tuples' true) (key := keyR s.heap) pl.isList (by rw [hlen]; exact hz.many) (fun A' s' Q' E' hA kp h2 hq => ?_) (fun A' s' u v Q' E' hA kp hi hj hq => ?_) fun out o1 o2 => ?_
          ·
            rcases hz.head with hh | hh
            · obtain ⟨fs, f1, f2, f3⟩ := tups_of (h := s'.heap) its fun v hv => by
                obtain ⟨d, hd', bs, rd, ld⟩ := item v hv
                obtain ⟨i, rest, ed⟩ := hh d hd'
                subst ed
                cases rd with
                | @tuple b o vs' n _ _ g1 g2 g3 g4 =>
                  cases g4' : vs'.toList with
                  | nil => rw [g4'] at g4; cases g4
                  | cons v0 vr =>
                    rw [g4'] at g4
                    cases g4 with
                    | cons g5 g6 =>
                      cases g5 with
                      | int _ t => exact ⟨b, o, vs', n, i, t, rfl, kp b o g1, g2, g3, by rw [← Array.getElem?_toList, g4']; rfl⟩
              refine PySem.W.kat_kind (T := .type "int") f1 (by omega) (fun v hv => ?_) (by rfl) hq
              obtain ⟨i, t, rfl⟩ := f3 v hv
              exact PySem.W.Looks.now
            · obtain ⟨fs, f1, f2, f3⟩ := tups_ofS (h := s'.heap) its fun v hv => by
                obtain ⟨d, hd', bs, rd, ld⟩ := item v hv
                obtain ⟨i, rest, ed⟩ := hh d hd'
                subst ed
                cases rd with
                | @tuple b o vs' n _ _ g1 g2 g3 g4 =>
                  cases g4' : vs'.toList with
                  | nil => rw [g4'] at g4; cases g4
                  | cons v0 vr =>
                    rw [g4'] at g4
                    cases g4 with
                    | cons g5 g6 =>
                      cases g5 with
                      | str _ t => exact ⟨b, o, vs', n, i, t, rfl, kp b o g1, g2, g3, by rw [← Array.getElem?_toList, g4']; rfl⟩
              refine PySem.W.kat_kind (T := .type "str") f1 (by omega) (fun v hv => ?_) (by rfl) hq
              obtain ⟨i, t, rfl⟩ := f3 v hv
              exact PySem.W.Looks.now
          · obtain ⟨d1, hd1, bs1, rd1, ld1⟩ := item u hi
            obtain ⟨d2, hd2, bs2, rd2, ld2⟩ := item v hj
            rw [keyR_is rd1 ld1, keyR_is rd2 ld2] at hq
            obtain ⟨b, hb⟩ := Option.isSome_iff_exists.mp (hz.cmp d1 hd1 d2 hd2)
            rw [enc_lt (hz.ok d1 hd1) (hz.ok d2 hd2) hb] at hq
            have dp1 := hz.deep d1 hd1
            have rd1' := Reads.keeps kp rd1
            have rd2' := Reads.keeps kp rd2
            have hd12 : (∃ x r x' r', d1 = .tuple (.int x :: r) ∧ d2 = .tuple (.int x' :: r')) ∨ (∃ x r x' r', d1 = .tuple (.str x :: r) ∧ d2 = .tuple (.str x' :: r')) := by
              rcases hz.head with hh | hh
              · obtain ⟨x, r, e1⟩ := hh d1 hd1
                obtain ⟨x', r', e2⟩ := hh d2 hd2
                exact .inl ⟨x, r, x', r', e1, e2⟩
              · obtain ⟨x, r, e1⟩ := hh d1 hd1
                obtain ⟨x', r', e2⟩ := hh d2 hd2
                exact .inr ⟨x, r, x', r', e1, e2⟩
            obtain ⟨xs1, e1⟩ : ∃ l, d1 = .tuple l := by
              rcases hd12 with ⟨x, r, x', r', e1, e2⟩ | ⟨x, r, x', r', e1, e2⟩ <;> exact ⟨_, e1⟩
            obtain ⟨xs2, e2⟩ : ∃ l, d2 = .tuple l := by
              rcases hd12 with ⟨x, r, x', r', e1, e2⟩ | ⟨x, r, x', r', e1, e2⟩ <;> exact ⟨_, e2⟩
            subst e1; subst e2
            unfold cD at hb
            unfold PyData.canLay0 at ld1 ld2
            unfold PyData.depth at dp1
            cases rd1' with
            | @tuple b1 o1 vs1 n1 _ _ g1 g2 g3 g4 =>
              cases rd2' with
              | @tuple b2 o2 vs2 n2 _ _ k1 k2 k3 k4 =>
                refine PySem.W.kat_lt g1 g3 k1 k3 (lex_data (X := vs1.size) (Y := vs2.size) 0 g4 k4 ld1 ld2 (by omega) (by simp; omega) (fun _ => ?_) hb hq)
                rcases hd12 with ⟨x, r, x', r', e1, e2⟩ | ⟨x, r, x', r', e1, e2⟩
                · cases e1; cases e2; exact .inl ⟨_, _, _, _, rfl, rfl⟩
                · cases e1; cases e2; exact .inr ⟨_, _, _, _, rfl, rfl⟩
          ·
            obtain ⟨is, i1, i2⟩ := perm_pick (d := Value.none) o1
            have hlt : ∀ i ∈ is, i < ys.length := fun i hi => by
              have := List.mem_range.mp (i1.mem_iff.mp hi)
              omega
            have hl' := l.pick is hlt
            have hv' := vals_pick ri is fun i hi => by rw [← l.length]; exact hlt i hi
            have ed : (is.map fun i => ys.getD i .none) = srtD ys := by
              have hp : (is.map fun i => ys.getD i .none).Perm ys := by
                have := i1.map fun i => ys.getD i .none
                rw [hlen, range_pick] at this
                exact this
              refine ordE_one (hp.trans (srtD_perm ys).symm) ?_ (srtD_ord ys) (fun x hx => hz.ok x (hp.mem_iff.mp hx)) fun x hx y hy => hz.cmp x (hp.mem_iff.mp hx) y (hp.mem_iff.mp hy)
              rw [i2] at o2
              have o3 := List.pairwise_map.mp o2
              refine List.pairwise_map.mpr (o3.imp_of_mem fun {i j} hi hj hij => ?_)
              obtain ⟨bs1, k1, k2⟩ := readsAll_keys ra la i (hlt i hi)
              obtain ⟨bs2, k3, k4⟩ := readsAll_keys ra la j (hlt j hj)
              rw [keyR_is k1 k2, keyR_is k3 k4] at hij
              exact hij
            rw [i2]
            rw [ed] at hl'
            obtain ⟨ep, hat⟩ := sortedAll_at s.heap its (is.map fun i => its.getD i Value.none).toArray
            have hn : s.heap.objs.size ≤ s.heap.objs.size + 1 := Nat.le_succ _
            refine ⟨.ref (s.heap.objs.size + 1), upd H (s.heap.objs.size + 1) (.lst (is.map fun i => ws.getD i .non)), I.laid (t' := s.toks) (fun b o e => sortedAll_old e) hn ⟨?_, _, ep, hv', hat⟩, rfl, q _ _ (same_upd (I.hok.fresh hn)) (RE.made hs (I.hok.fresh hn) hl')⟩
            rw [← hl'.length, (srtD_perm ys).length_eq, l.length]; exact hzz
    · cases e2
  · cases e
end
end L3
set_option Elab.async false
set_option linter.all false
set_option maxRecDepth 100000
set_option maxHeartbeats 4000000
set_option autoImplicit false
namespace L3
open PySem PySem.Spec L2
open PyProof.Rows hiding St
def ItOkO (O P : List Addr) (H : Hp) (J : It) (xs : List D) : Prop := ∀ (i : Nat) (H' : Hp), Same H H' →
  (∀ d, xs[i]? = some d → J.go i H' ∧ ∀ x H2, J.yld i H' x H2 → H2 = H' ∧ Rp (P ++ O) H' d x) ∧ (xs.length ≤ i → J.stop i H')
def FnIO (E : XK) (O P : List Addr) (H : Hp) (R : It → Hp → Prop) : Except Value (List D) → Prop
  | .ok xs => ∀ J H', Same H H' → ItOkO O P H' J xs → R J H'
  | .error c => ∀ dx H', Same H H' → E c dx H'
def tIO (E : XK) (f : DS → M (List D)) : TI := fun σ H R => ∃ O P δ r, RS O P H σ δ ∧ f δ = some r ∧ FnIO E O P H R r
def PIxO (X : Cx) (E : XK) (tg iter : Expr) (f : DS → M (List D)) : Prop := PI X tg iter (tIO E f)
def iLa (f : DS → M DV) (δ : DS) : M (List D) := bd (f δ) fun x => op (asL x)
section
variable {X : Cx} {E : XK} {tg e : Expr} {f : DS → M DV}
theorem ix_la (he : PX X E e f) : PIxO X E tg e (iLa f) := PI.mono (pi_list he) fun σ H R q => by
  obtain ⟨O, P, δ, r, rs, e, q⟩ := q
  rcases bd_cases e with ⟨x, e1, e2⟩ | ⟨cx, e1, e2⟩
  · refine ⟨O, P, δ, .ok x, rs, e1, fun v H1 s1 rx => ?_⟩
    cases e3 : asL x with
    | none => rw [e3] at e2; cases e2
    | some xs =>
      rw [e3] at e2
      cases e2
      obtain ⟨a, ws, rfl, ha, l⟩ := rx.list e3
      refine ⟨a, rfl, ⟨ws, SqL.of ha⟩, q _ H1 s1 fun i H' k => ?_⟩
      have ha' := k a _ ha
      have l' := l.kp (.same k)
      refine ⟨fun d hd => ?_, fun h => ⟨ws, SqL.of ha', by rw [← l.length]; exact h⟩⟩
      obtain ⟨y, hy, ry⟩ := l'.get hd
      refine ⟨⟨ws, y, SqL.of ha', hy⟩, fun z H2 ⟨e4, e5⟩ => ⟨e4, ?_⟩⟩
      have := e5 ws (SqL.of ha')
      rw [hy] at this
      cases this; exact ry
  · subst e2
    exact ⟨O, P, δ, .error cx, rs, e1, q⟩
end
section
variable {X : Cx} {E : XK} {k : Nat} {js : List Nat} {N' : List Str} {scope : Scope} {elt tg iter : Expr} {ifs : List Expr} {pos : Pos} {fi : DS → M (List D)} {g : TG} {sf : D → DS → Option DS} {gc : DS → M Bool} {fe : DS → M DV}
theorem comp_readO (hj : js.Nodup) (ht : TgV g sf) (hsub : ∀ δ d δ1, sf d (subD k js δ) = some δ1 → Sub (subD k js δ) δ1) {σ : St} {H : Hp} {Q : VK} (q : tE E (eComp k js fi sf gc fe) σ H Q) : tComp (tIO E fi) k js g (tBo E0 gc) (tE E0 fe) σ H Q := by
  obtain ⟨O, P, δ, r, rs, e, q⟩ := q
  rcases bd_cases e with ⟨xs, e1, e2⟩ | ⟨cx, e1, e2⟩
  · refine ⟨O, P, δ, .ok xs, rs, e1, fun J H1 s1 it => ?_⟩
    split at e2
    · rename_i hz
      obtain ⟨ys, e3, e4⟩ := bd_op e2
      cases e4
      have hlen := compD_len e3
      refine ⟨fun i m σ' H' vs => m = xs.length - i ∧ i ≤ xs.length ∧ Same H1 H' ∧ RS O P H' σ' (subD k js δ) ∧ ∃ ds es, RpL (P ++ O) H' ds vs ∧ compD sf gc fe (subD k js δ) (xs.drop i) = some es ∧ ys = ds ++ es,
        ⟨xs.length, by simp, Nat.zero_le _, Same.refl H1, (rs.same s1).block k js hj, [], ys, .nil, e3, rfl⟩, ?_⟩
      rintro i m σ' H' vs ⟨rfl, hi, sH, rs', ds, es, l, ec, ey⟩
      have hvl : vs.length ≤ ys.length := by rw [ey, ← l.length]; simp
      by_cases hlt : i < xs.length
      · refine .inr ?_
        rw [List.drop_eq_getElem_cons hlt] at ec
        unfold compD at ec
        obtain ⟨go, yl⟩ := (it i H' sH).1 xs[i] (by simp [hlt])
        split at ec
        · cases ec
        · rename_i δ1 e5
          refine ⟨go, Nat.lt_of_le_of_lt (Nat.le_trans hvl (Nat.le_trans hlen hz)) (by rw [sizeLine_eq]; decide), fun x H2 hy => ?_⟩
          obtain ⟨rfl, rx⟩ := yl x H2 hy
          refine ht O P H2 σ' _ δ1 _ x _ rs' rx e5 fun σ1 rs1 => ?_
          have hsb := hsub δ _ δ1 e5
          split at ec
          · rename_i e6
            refine ⟨O, P, δ1, .ok false, rs1, e6, fun H3 s3 => ?_⟩
            exact iteF ⟨xs.length - (i + 1), by omega, rfl, hlt, sH.trans s3, (rs1.same s3).forget hsb, ds, es, l.kp (.same s3), ec, ey⟩
          · rename_i e6
            refine ⟨O, P, δ1, .ok true, rs1, e6, fun H3 s3 => ?_⟩
            refine iteT ?_
            split at ec
            · rename_i y e7
              split at ec
              · rename_i z zs e8 e9
                cases ec
                refine ⟨O, P, δ1, .ok y, rs1.same s3, e7, fun v H4 s4 ry => ?_⟩
                refine ⟨xs.length - (i + 1), by omega, rfl, hlt, sH.trans (s3.trans s4), (rs1.same (s3.trans s4)).forget hsb, ds ++ [z], zs, (l.kp (.same (s3.trans s4))).append (.cons (ry.data (rs1.same s3).dom e8) .nil), e9, ?_⟩
                rw [ey, List.append_assoc]; rfl
              · cases ec
            · cases ec
          · cases ec
      · have hin : i = xs.length := by omega
        subst hin
        rw [List.drop_length] at ec
        cases ec
        refine .inl ⟨(it _ H' sH).2 (Nat.le_refl _), Nat.le_trans hvl (line_big (Nat.le_trans hlen hz)), fun p hp => ?_⟩
        rw [ey, List.append_nil] at q
        exact q _ _ ((s1.trans sH).trans (same_upd hp)) (RE.made (s1.trans sH) hp l)
    · cases e2
  · subst e2
    exact ⟨O, P, δ, .error cx, rs, e1, q⟩
theorem px_compO (S : CompFit X k js N' scope) (hj : js.Nodup) (hc : X.calm = true) (hi : PIxO X E tg iter fi) (ht : TgV g sf) (hsub : ∀ δ d δ1, sf d (subD k js δ) = some δ1 → Sub (subD k js δ) δ1)
    (hg : ∀ C s₂ H₂ fp, PG (compCx X N' scope C s₂ H₂ fp) tg g) (hf : ∀ C s₂ H₂ fp, PF (compCx X N' scope C s₂ H₂ fp) ifs (tBo E0 gc)) (he : ∀ C s₂ H₂ fp, PX (compCx X N' scope C s₂ H₂ fp) E0 elt fe)
    (hs : ∀ x, foldedSetIterable iter X.env x = pure x := by intro _; rfl) : PX X E (.ListComp elt [⟨tg, iter, ifs, 0⟩] scope pos) (eComp k js fi sf gc fe) :=
  PE.mono (pe_comp S hc hi hg hf he hs) fun σ H Q q => comp_readO hj ht hsub q
end
end L3
set_option Elab.async false
set_option linter.all false
set_option maxRecDepth 100000
set_option maxHeartbeats 1000000
set_option autoImplicit false
namespace LW
open PySem PySem.Spec L2 L3
def good (m c : Int) : Bool := decide (3 ≤ m) && decide (m ≤ 13) && (decide (1 ≤ c) && decide (c ≤ 4))
def eMkH (C CB : Addr) (fr : DS → M (List DV)) : DS → M DV := eCb (mkH C CB good "most" "colours") fr
def F_is_tile (C : Addr) : DS → M Out := (fRet (eAnd (eCh gLeD gLeD (eC (.int 1)) (e2 gIx (eVar 1) (eC (.int 0))) (eFld C "most" (eVar 0))) (eCh gLeD gLtD (eC (.int 0)) (e2 gIx (eVar 1) (eC (.int 1))) (eFld C "colours" (eVar 0)))))
def M_is_tile (C : Addr) : List DV → M DV := mir ["house", "tile"] (F_is_tile C)
noncomputable def F__law_cell_at (K : PySem.W.Frag) : DS → M Out := (fSq (fIf (fun δ => bd (e2 gLtD (eVar 1) (eCb (gLenS K) (aCons (eVar 0) aNil)) δ) tru) (fRet (e2 (gIxS K) (eVar 0) (eVar 1))) fNil) (fRet (eC (.int 0))))
noncomputable def M__law_cell_at (K : PySem.W.Frag) : List DV → M DV := mir ["script", "k"] (F__law_cell_at K)
def F__law_mix : DS → M Out := (fSq (fSet 3 (eLst (aCons (eC (.int 48271)) (aCons (eC (.int 69621)) (aCons (eC (.int 16807)) (aCons (eC (.int 39373)) (aCons (eC (.int 30269)) (aCons (eC (.int 40014)) (aCons (eC (.int 40692)) (aCons (eC (.int 50021)) (aCons (eC (.int 61687)) (aCons (eC (.int 71993)) (aCons (eC (.int 83869)) (aCons (eC (.int 95561)) (aCons (eC (.int 30307)) aNil))))))))))))))) (fSq (fSet 4 (e2 gPlus (e2 gPlus (e2 gTimes (e2 gPlus (e2 gMod (eVar 0) (eC (.int 2147483647))) (eC (.int 12345))) (e2 gIx (eVar 3) (e2 gMod (eVar 1) (eC (.int 13))))) (e2 gTimes (eC (.int 977)) (eVar 1))) (e2 gTimes (eC (.int 7919)) (e2 gDiv (eVar 1) (eC (.int 13)))))) (fSq (fSet 4 (e2 gMod (eVar 4) (eC (.int 1000000007)))) (fRet (e2 gMod (e2 gDiv (e2 gMod (e2 gPlus (e2 gTimes (eVar 4) (eVar 4)) (e2 gTimes (eC (.int 48271)) (eVar 1))) (eC (.int 1000000007))) (eC (.int 7))) (eVar 2))))))
def M__law_mix : List DV → M DV := mir ["cell", "k", "many", "some", "stir"] (F__law_mix)
def F__law_told : DS → M Out := (fRet (eAnd (eIs "bool" (eVar 0)) (e2 (gEq false) (eVar 0) (eVar 1))))
def M__law_told : List DV → M DV := mir ["found", "due"] (F__law_told)
noncomputable def F__law_house_by (K : PySem.W.Frag) : DS → M Out := (fSq (fSet 1 (eCb (gCall 2 (M__law_cell_at K)) (aCons (eVar 0) (aCons (eC (.int 0)) aNil)))) (fRet (eTup (aCons (e2 gPlus (eC (.int 3)) (eCb (gCall 3 (M__law_mix)) (aCons (eVar 1) (aCons (eC (.int 1)) (aCons (e2 gIx (eLst (aCons (eC (.int 4)) (aCons (eC (.int 4)) (aCons (eC (.int 4)) (aCons (eC (.int 11)) aNil))))) (eCb (gCall 3 (M__law_mix)) (aCons (eVar 1) (aCons (eC (.int 2)) (aCons (eC (.int 4)) aNil))))) aNil))))) (aCons (e2 gPlus (eC (.int 1)) (eCb (gCall 3 (M__law_mix)) (aCons (eVar 1) (aCons (eC (.int 3)) (aCons (eC (.int 4)) aNil))))) aNil)))))
noncomputable def M__law_house_by (K : PySem.W.Frag) : List DV → M DV := mir ["script", "cell"] (F__law_house_by K)
end LW
set_option Elab.async false
set_option linter.all false
set_option maxRecDepth 100000
set_option maxHeartbeats 1000000
set_option autoImplicit false
namespace LW
open PySem PySem.Spec L2 L3
theorem ite_d (a b : Bool) : (if a = true then rt (DV.d (.bool b)) else rt (DV.d (.bool false))) = rt (.d (.bool (a && b))) := by cases a <;> rfl
theorem ite_b (a b : Bool) : (if a = true then rt b else rt false) = (rt (a && b) : M Bool) := by cases a <;> rfl
theorem ite_o (a b : Bool) : (if a = true then rt true else rt b) = (rt (a || b) : M Bool) := by cases a <;> rfl
theorem ite_e (a b : Bool) : (if a = true then rt (DV.d (.bool true)) else rt (DV.d (.bool b))) = rt (.d (.bool (a || b))) := by cases a <;> rfl
local macro_rules | `(tactic| walk_at "py") => `(tactic| simp only [mir, dst, fSq, fSet, fRet, fIf, fNil, fTg, fDrop, fPar, eVar, eC, e2, aCons, aNil, eTup, eLst, eCb, gCall, L3.args_nil, args_d, args_ob, args_new, args_scr, datas_nil, datas_d, datas_new, Option.map_some, bd_rt, bd_ok, bd_none, op_some, okO_rt, okO_ok, sqo_nx, sqo_rt, outR_rt, outR_nx, res_d, res_own, res_new, res_ob, asgn_d, asgn_ob, asgn_new, asgn_scr, tru_b, bNot, bAnd, bOr, eAnd, eOr, eNot, eCh, eFld, List.map_cons, List.map_nil, List.length_cons, List.length_nil, List.replicate, List.cons_append, List.nil_append, List.append_nil, List.getElem?_cons_zero, List.getElem?_cons_succ, List.set_cons_zero, List.set_cons_succ, Option.join_some, Nat.reduceAdd, Nat.reduceSub, Nat.reduceLeDiff, Nat.reduceEqDiff, if_true, if_false, ite_true, ite_false, Bool.not_true, Bool.not_false, Bool.false_eq_true, Nat.zero_add, asD_d, asD_new, asL_d, asL_own, asL_new, asQ_d, asQ_own, asQ_new, gPlus_int, gAdd_int, gSub_int, gLt_int, gLe_int, gGt_int, gGe_int, gLtD_int, gLeD_int, ite_d, ite_b, ite_o, ite_e])def cellAt (ns : List Int) (k : Int) : Int := if k < (ns.length : Int) then (atI ns k).getD 0 else 0
theorem atI_some {α : Type} {xs : List α} {i : Int} (h0 : 0 ≤ i) (h1 : i < (xs.length : Int)) : ∃ x, atI xs i = some x := by
  unfold atI ixN
  rw [if_pos h0, if_pos h1]
  exact ⟨xs[i.toNat]'(by omega), by simp⟩
theorem gLenS_is (K : PySem.W.Frag) (ns : List Int) : gLenS K [.scr K ns] = rt (.d (.int ns.length)) := by
  unfold gLenS
  exact if_pos rfl
theorem gIxS_is (K : PySem.W.Frag) (ns : List Int) (i : Int) : gIxS K (.scr K ns) (.d (.int i)) = bd (op (atI ns i)) fun n => rt (.d (.int n)) := by
  unfold gIxS
  exact if_pos rfl
theorem m_cell (K : PySem.W.Frag) (ns : List Int) (k : Int) (h : 0 ≤ k) : M__law_cell_at K [.scr K ns, .d (.int k)] = rt (.d (.int (cellAt ns k))) := by
  unfold M__law_cell_at F__law_cell_at cellAt
  walk_at "py"
  rw [gLenS_is]
  walk_at "py"
  by_cases hk : k < (ns.length : Int)
  · obtain ⟨x, hx⟩ := atI_some h hk
    rw [decide_eq_true hk, gIxS_is, hx, if_pos hk]
    walk_at "py"
    rfl
  · rw [decide_eq_false hk, if_neg hk]
    walk_at "py"
theorem at_big {i : Int} (h0 : 0 ≤ i) (h1 : i < 13) : ∃ x : Int, atI ([.int 48271, .int 69621, .int 16807, .int 39373, .int 30269, .int 40014, .int 40692, .int 50021, .int 61687, .int 71993, .int 83869, .int 95561, .int 30307] : List D) i = some (.int x) ∧ 0 < x ∧ x < 100000 := by
  obtain ⟨n, rfl⟩ := Int.eq_ofNat_of_zero_le h0
  have hn : n < 13 := by omega
  match n, hn with
  | 0, _ | 1, _ | 2, _ | 3, _ | 4, _ | 5, _ | 6, _ | 7, _ | 8, _ | 9, _ | 10, _ | 11, _ | 12, _ => exact ⟨_, rfl, by decide, by decide⟩
theorem gIx_own {xs : List D} {i : Int} {x : D} (h : atI xs i = some x) : gIx (.own xs) (.d (.int i)) = rt (.d x) := by
  unfold gIx
  simp only [h, op_some, bd_rt]
theorem gIx_new {xs : List D} {i : Int} {x : D} (h : atI xs i = some x) : gIx (.new xs) (.d (.int i)) = rt (.d x) := by
  unfold gIx
  simp only [h, op_some, bd_rt]
theorem gIx_tup {xs : List D} {i : Int} {x : D} (h : atI xs i = some x) : gIx (.d (.tuple xs)) (.d (.int i)) = rt (.d x) := by
  unfold gIx
  simp only [h, op_some, bd_rt]
theorem cMul_l {i j : Int} (h : 0 ≤ i) (h' : i < 18446744073709551616) : cMul i j = true := by
  unfold cMul
  have a : decide (-(2 ^ 64) < i) = true := decide_eq_true (by omega)
  have b : decide (i < 2 ^ 64) = true := decide_eq_true (by omega)
  rw [a, b]; rfl
theorem cMul_r {i j : Int} (h : 0 ≤ j) (h' : j < 18446744073709551616) : cMul i j = true := by
  unfold cMul
  have a : decide (-(2 ^ 64) < j) = true := decide_eq_true (by omega)
  have b : decide (j < 2 ^ 64) = true := decide_eq_true (by omega)
  rw [a, b, Bool.and_true, Bool.or_true]
theorem m_mix (cell k many : Int) (hm : 0 < many) : ∃ r, M__law_mix [.d (.int cell), .d (.int k), .d (.int many)] = rt (.d (.int r)) ∧ 0 ≤ r ∧ r < many := by
  unfold M__law_mix F__law_mix
  walk_at "py"
  rw [gMod_int (by decide), gMod_int (by decide), gDiv_int (by decide) (by decide)]
  obtain ⟨x, hx, x0, x1⟩ := at_big (Int.emod_nonneg k (by decide : (13 : Int) ≠ 0)) (Int.emod_lt_of_pos k (by decide : (0 : Int) < 13))
  walk_at "py"
  rw [gIx_own hx]
  walk_at "py"
  rw [gTimes_int (cMul_r (by omega) (by omega)), gTimes_int (cMul_l (by decide) (by decide)), gTimes_int (cMul_l (by decide) (by decide))]
  walk_at "py"
  rw [gMod_int (by decide)]
  walk_at "py"
  generalize hs : ((cell % 2147483647 + 12345) * x + 977 * k + 7919 * (k / 13)) % 1000000007 = st
  have s0 : 0 ≤ st := by rw [← hs]; exact Int.emod_nonneg _ (by decide)
  have s1 : st < 1000000007 := by rw [← hs]; exact Int.emod_lt_of_pos _ (by decide)
  rw [gTimes_int (cMul_l s0 (by omega)), gTimes_int (cMul_l (by decide) (by decide))]
  walk_at "py"
  rw [gMod_int (by decide)]
  walk_at "py"
  rw [gDiv_int (by decide) (by decide)]
  walk_at "py"
  rw [gMod_int hm]
  walk_at "py"
  exact ⟨_, rfl, Int.emod_nonneg _ (by omega), Int.emod_lt_of_pos _ hm⟩
end LW
set_option Elab.async false
set_option linter.all false
set_option maxRecDepth 100000
set_option maxHeartbeats 1000000
set_option autoImplicit false
namespace LW
open PySem PySem.Spec L2 L3
local macro_rules | `(tactic| walk_at "py") => `(tactic| simp only [mir, dst, fSq, fSet, fRet, fIf, fNil, fTg, fDrop, fPar, eVar, eC, e2, aCons, aNil, eTup, eLst, eCb, gCall, L3.args_nil, args_d, args_ob, args_new, args_scr, datas_nil, datas_d, datas_new, Option.map_some, bd_rt, bd_ok, bd_none, op_some, okO_rt, okO_ok, sqo_nx, sqo_rt, outR_rt, outR_nx, res_d, res_own, res_new, res_ob, asgn_d, asgn_ob, asgn_new, asgn_scr, tru_b, bNot, bAnd, bOr, eAnd, eOr, eNot, eCh, eFld, List.map_cons, List.map_nil, List.length_cons, List.length_nil, List.replicate, List.cons_append, List.nil_append, List.append_nil, List.getElem?_cons_zero, List.getElem?_cons_succ, List.set_cons_zero, List.set_cons_succ, Option.join_some, Nat.reduceAdd, Nat.reduceSub, Nat.reduceLeDiff, Nat.reduceEqDiff, if_true, if_false, ite_true, ite_false, Bool.not_true, Bool.not_false, Bool.false_eq_true, Nat.zero_add, asD_d, asD_new, asL_d, asL_own, asL_new, asQ_d, asQ_own, asQ_new, gPlus_int, gAdd_int, gSub_int, gLt_int, gLe_int, gGt_int, gGe_int, gLtD_int, gLeD_int, ite_d, ite_b, ite_o, ite_e])
theorem m_house (K : PySem.W.Frag) (ns : List Int) : ∃ m c, M__law_house_by K [.scr K ns] = rt (.d (.tuple [.int m, .int c])) ∧ 3 ≤ m ∧ m ≤ 13 ∧ 1 ≤ c ∧ c ≤ 4 := by
  unfold M__law_house_by F__law_house_by
  walk_at "py"
  rw [m_cell K ns 0 (by decide)]
  walk_at "py"
  obtain ⟨r1, h1, a1, b1⟩ := m_mix (cellAt ns 0) 2 4 (by decide)
  rw [h1]
  walk_at "py"
  have hx : ∃ x : Int, atI ([.int 4, .int 4, .int 4, .int 11] : List D) r1 = some (.int x) ∧ 4 ≤ x ∧ x ≤ 11 := by
    obtain ⟨n, rfl⟩ := Int.eq_ofNat_of_zero_le a1
    have hn : n < 4 := by omega
    match n, hn with
    | 0, _ | 1, _ | 2, _ | 3, _ => exact ⟨_, rfl, by decide, by decide⟩
  obtain ⟨x, hx, x4, x11⟩ := hx
  rw [gIx_new hx]
  walk_at "py"
  obtain ⟨r2, h2, a2, b2⟩ := m_mix (cellAt ns 0) 1 x (by omega)
  obtain ⟨r3, h3, a3, b3⟩ := m_mix (cellAt ns 0) 3 4 (by decide)
  rw [h2, h3]
  walk_at "py"
  exact ⟨_, _, rfl, by omega, by omega, by omega, by omega⟩
def pr (p : Int × Int) : D := .tuple [.int p.1, .int p.2]
theorem eqv_pr (p q : Int × Int) : PyData.eqv (pr p) (pr q) = decide (p = q) := by
  obtain ⟨a, b⟩ := p
  obtain ⟨c, d⟩ := q
  show PyData.eqvAll ([a, b].map PyData.int) ([c, d].map PyData.int) = _
  rw [eqv_ints]
  simp
theorem eqv_prs : ∀ ps qs : List (Int × Int), PyData.eqvAll (ps.map pr) (qs.map pr) = decide (ps = qs)
  | [], [] => rfl
  | [], _ :: _ => rfl
  | _ :: _, [] => rfl
  | p :: ps, q :: qs => by
    rw [List.map_cons, List.map_cons, PyData.eqvAll, eqv_pr, eqv_prs ps qs]
    by_cases h : p = q
    · subst h; simp
    · simp [h]
theorem depth_prs : ∀ ps : List (Int × Int), PyData.depthAll (ps.map pr) ≤ 1
  | [] => by decide
  | p :: ps => by
    rw [List.map_cons, PyData.depthAll]
    have h1 : (pr p).depth = 1 := rfl
    have h2 := depth_prs ps
    omega
def le (p q : Int × Int) : Bool := !(ll [q.1, q.2] [p.1, p.2])
theorem comp_map {fe : DS → M DV} {δ : DS} {g : D → D} : ∀ {xs : List D}, (∀ d ∈ xs, fe (δ.set 0 (some (.d d))) = rt (.d (g d))) → compD (sName 0) bYes fe δ xs = some (xs.map g)
  | [], _ => rfl
  | d :: r, h => by
    have h1 := h d List.mem_cons_self
    have ih := comp_map (xs := r) fun e he => h e (List.mem_cons_of_mem _ he)
    unfold compD
    simp only [sName, bYes, rt]
    rw [h1, ih]
    rfl
theorem gAll_is {bs : List Bool} : gAll [.new (bs.map PyData.bool)] = rt (.d (.bool (bs.all id))) := by
  unfold gAll
  simp only [asL_new, op_some, bd_rt, bools_map]
def tileOk (m c : Int) (p : Int × Int) : Bool := decide (1 ≤ p.1) && decide (p.1 ≤ m) && (decide (0 ≤ p.2) && decide (p.2 < c))
def hs (C : Addr) (m c : Int) : DV := .ob C [("most", .int m), ("colours", .int c)]
theorem gFld_most (C : Addr) (m c : Int) : gFld C "most" (hs C m c) = rt (.d (.int m)) := by
  show (if C = C then bd (op (List.lookup ("most" : Str) [(("most" : Str), PyData.int m), ("colours", .int c)])) fun d => rt (DV.d d) else none) = _
  rw [if_pos rfl, List.lookup_cons]
  simp only [beq_self_eq_true]
  rfl
theorem gFld_colours (C : Addr) (m c : Int) : gFld C "colours" (hs C m c) = rt (.d (.int c)) := by
  show (if C = C then bd (op (List.lookup ("colours" : Str) [(("most" : Str), PyData.int m), ("colours", .int c)])) fun d => rt (DV.d d) else none) = _
  rw [if_pos rfl, List.lookup_cons]
  have h : (("colours" : Str) == "most") = false := by decide +kernel
  rw [h]
  simp only [List.lookup_cons, beq_self_eq_true]
  rfl
theorem m_tile (C : Addr) (m c : Int) (p : Int × Int) : M_is_tile C [hs C m c, .d (pr p)] = rt (.d (.bool (tileOk m c p))) := by
  unfold M_is_tile F_is_tile
  walk_at "py"
  have g0 : gIx (.d (pr p)) (.d (.int 0)) = rt (.d (.int p.1)) := gIx_tup rfl
  have g1 : gIx (.d (pr p)) (.d (.int 1)) = rt (.d (.int p.2)) := gIx_tup rfl
  rw [g0, g1, gFld_most, gFld_colours]
  walk_at "py"
  rfl
theorem atI_nn {α : Type} {xs : List α} {k : Nat} (h : k < xs.length) (d : α) : atI xs (k : Int) = some (xs.getD k d) := by
  unfold atI ixN
  rw [if_pos (by omega), if_pos (by omega)]
  simp [h]
theorem gLen_prs (ps : List (Int × Int)) : gLen [.d (.list (ps.map pr))] = rt (.d (.int (ps.length : Int))) := by
  show rt (DV.d (.int ((ps.map pr).length : Int))) = _
  rw [List.length_map]
theorem iR2_is {fr : DS → M (List DV)} {δ : DS} {i j : Int} (h : fr δ = rt [.d (.int i), .d (.int j)]) (hi : -1000 ≤ i) (hi' : i ≤ 1000) (hj : -1000 ≤ j) (hj' : j ≤ 1000) : iR2 fr δ = rt (runI i (j - i).toNat) := by
  unfold iR2
  rw [h]
  exact if_pos ⟨by omega, by omega, by omega, by omega⟩
theorem iR1_is {fr : DS → M (List DV)} {δ : DS} {j : Int} (h : fr δ = rt [.d (.int j)]) (hj : -1000 ≤ j) (hj' : j ≤ 1000) : iR1 fr δ = rt (runI 0 j.toNat) := by
  unfold iR1
  rw [h]
  exact if_pos ⟨by omega, by omega⟩
theorem eComp_is {k : Nat} {js : List Nat} {fi : DS → M (List D)} {sf : D → DS → Option DS} {gc : DS → M Bool} {fe : DS → M DV} {δ : DS} {xs ys : List D} (h1 : fi δ = rt xs) (h2 : xs.length ≤ 1000000) (h3 : compD sf gc fe (subD k js δ) xs = some ys) : eComp k js fi sf gc fe δ = rt (.new ys) := by
  unfold eComp
  rw [h1, bd_rt, if_pos h2, h3]
  rfl
end LW
set_option Elab.async false
set_option linter.all false
set_option maxRecDepth 100000
set_option maxHeartbeats 1000000
set_option autoImplicit false
namespace LW
open PySem PySem.Spec L2 L3
local macro_rules | `(tactic| walk_at "py") => `(tactic| simp only [mir, dst, fSq, fSet, fRet, fIf, fNil, fTg, fDrop, fPar, eVar, eC, e2, aCons, aNil, eTup, eLst, eCb, gCall, L3.args_nil, args_d, args_ob, args_new, args_scr, datas_nil, datas_d, datas_new, Option.map_some, bd_rt, bd_ok, bd_none, op_some, okO_rt, okO_ok, sqo_nx, sqo_rt, outR_rt, outR_nx, res_d, res_own, res_new, res_ob, asgn_d, asgn_ob, asgn_new, asgn_scr, tru_b, bNot, bAnd, bOr, eAnd, eOr, eNot, eCh, eFld, List.map_cons, List.map_nil, List.length_cons, List.length_nil, List.replicate, List.cons_append, List.nil_append, List.append_nil, List.getElem?_cons_zero, List.getElem?_cons_succ, List.set_cons_zero, List.set_cons_succ, Option.join_some, Nat.reduceAdd, Nat.reduceSub, Nat.reduceLeDiff, Nat.reduceEqDiff, if_true, if_false, ite_true, ite_false, Bool.not_true, Bool.not_false, Bool.false_eq_true, Nat.zero_add, asD_d, asD_new, asL_d, asL_own, asL_new, asQ_d, asQ_own, asQ_new, gPlus_int, gAdd_int, gSub_int, gLt_int, gLe_int, gGt_int, gGe_int, gLtD_int, gLeD_int, ite_d, ite_b, ite_o, ite_e])
theorem comp_by {α : Type} {f : α → D} {fe : DS → M DV} {δ : DS} {g : α → D} : ∀ {as : List α}, (∀ a ∈ as, fe (δ.set 0 (some (.d (f a)))) = rt (.d (g a))) → compD (sName 0) bYes fe δ (as.map f) = some (as.map g)
  | [], _ => rfl
  | a :: r, h => by
    have h1 := h a List.mem_cons_self
    have ih := comp_by (as := r) fun e he => h e (List.mem_cons_of_mem _ he)
    rw [List.map_cons, List.map_cons]
    unfold compD
    simp only [sName, bYes, rt]
    rw [h1, ih]
    rfl
def cnt (ps : List (Int × Int)) (p : Int × Int) : Int := (((ps.map pr).countP fun z => PyData.eqv z (pr p) : Nat) : Int)
def tok (m c : Int) (ps : List (Int × Int)) (p : Int × Int) : Bool := tileOk m c p && decide (cnt ps p ≤ 2)
theorem iLs_is {f : DS → M DV} {δ : DS} {xs : List D} (h : f δ = rt (.d (.list xs))) : iLs f δ = rt xs := by
  unfold iLs
  rw [h]
  rfl
theorem gEq_prs (neg : Bool) (ps qs : List (Int × Int)) (x : DV) (hx : asQ x = some (.list (qs.map pr))) : gEq neg (.d (.list (ps.map pr))) x = rt (.d (.bool (if neg = true then !decide (ps = qs) else decide (ps = qs)))) := by
  unfold gEq
  rw [hx]
  simp only [asQ_d]
  have hd : (PyData.list (ps.map pr)).depth ≤ 60 := by
    have := depth_prs ps
    unfold PyData.depth
    omega
  rw [if_pos hd]
  have he : PyData.eqv (.list (ps.map pr)) (.list (qs.map pr)) = decide (ps = qs) := eqv_prs ps qs
  rw [he]
end LW
set_option Elab.async false
set_option linter.all false
set_option maxRecDepth 100000
set_option maxHeartbeats 1000000
set_option autoImplicit false
namespace LW
open PySem PySem.Spec L2 L3
section
variable {F G : DS → M Out} {f fa fb fc : DS → M DV} {fr : DS → M (List DV)} {gc : DS → M Bool} {g : DV → DV → M DV} {δ δ' : DS} {x y z : DV} {k : Bool}
theorem sq_nx (h : F δ = rt (.nx δ')) : fSq F G δ = G δ' := by unfold fSq; rw [h]; rfl
theorem sq_rt (h : F δ = rt (.rt x)) : fSq F G δ = rt (.rt x) := by unfold fSq; rw [h]; rfl
theorem if_is (h : gc δ = rt k) : fIf gc F G δ = if k = true then F δ else G δ := by unfold fIf; rw [h]; rfl
theorem set_is {i : Nat} (h : f δ = rt x) (ha : asgn x = some y) : fSet i f δ = rt (.nx (δ.set i (some y))) := by unfold fSet; rw [h, bd_rt, ha]; rfl
theorem ret_is (h : f δ = rt x) : fRet f δ = rt (.rt x) := by unfold fRet; rw [h]; rfl
theorem e2_is (h1 : fa δ = rt x) (h2 : fb δ = rt y) : e2 g fa fb δ = g x y := by unfold e2; rw [h1, bd_rt, h2]; rfl
theorem a1_is (h1 : fa δ = rt x) : aCons fa aNil δ = rt [x] := by unfold aCons; rw [h1]; rfl
theorem a2_is (h1 : fa δ = rt x) (h2 : fb δ = rt y) : aCons fa (aCons fb aNil) δ = rt [x, y] := by
  have := a1_is h2
  unfold aCons at this ⊢
  rw [h1, bd_rt, this]; rfl
theorem a3_is (h1 : fa δ = rt x) (h2 : fb δ = rt y) (h3 : fc δ = rt z) : aCons fa (aCons fb (aCons fc aNil)) δ = rt [x, y, z] := by
  have := a2_is h2 h3
  unfold aCons at this ⊢
  rw [h1, bd_rt, this]; rfl
theorem cb_is {G : List DV → M DV} {xs : List DV} (h : fr δ = rt xs) : eCb G fr δ = G xs := by unfold eCb; rw [h]; rfl
theorem call_is {n : Nat} {fm : List DV → M DV} {xs ys : List DV} (h : fr δ = rt xs) (ha : args xs = some ys) (hn : ys.length = n) (hm : fm ys = rt x) : eCb (gCall n fm) fr δ = rt x := by
  rw [cb_is h]
  unfold gCall
  rw [ha, op_some, bd_rt, if_pos hn, hm]; rfl
theorem t2_is {a b : D} (h1 : fa δ = rt (.d a)) (h2 : fb δ = rt (.d b)) : eTup (aCons fa (aCons fb aNil)) δ = rt (.d (.tuple [a, b])) := by
  unfold eTup
  rw [a2_is h1 h2]
  rfl
theorem tst_is {b : Bool} (h : f δ = rt (.d (.bool b))) : (fun δ => bd (f δ) tru) δ = rt b := by
  show bd (f δ) tru = _
  rw [h]; rfl
theorem not_is {ga : DS → M Bool} {a : Bool} (h1 : ga δ = rt a) : bNot ga δ = rt (!a) := by
  unfold bNot
  rw [h1, bd_rt]
theorem mixE {cell k many : Int} (h1 : fa δ = rt (.d (.int cell))) (h2 : fb δ = rt (.d (.int k))) (h3 : fc δ = rt (.d (.int many))) (hm : 0 < many) : ∃ r, eCb (gCall 3 M__law_mix) (aCons fa (aCons fb (aCons fc aNil))) δ = rt (.d (.int r)) ∧ 0 ≤ r ∧ r < many := by
  obtain ⟨r, h, h0, hr⟩ := m_mix cell k many hm
  exact ⟨r, call_is (a3_is h1 h2 h3) rfl rfl h, h0, hr⟩
theorem cellE {K : PySem.W.Frag} {ns : List Int} {k : Int} (h1 : fa δ = rt (.scr K ns)) (h2 : fb δ = rt (.d (.int k))) (hk : 0 ≤ k) : eCb (gCall 2 (M__law_cell_at K)) (aCons fa (aCons fb aNil)) δ = rt (.d (.int (cellAt ns k))) :=
  call_is (a2_is h1 h2) rfl rfl (m_cell K ns k hk)
theorem app_is {i : Nat} {xs : List D} {d : D} (hi : δ[i]? = some (some (.own xs))) (h : f δ = rt x) (hd : asD x = some d) (hl : xs.length < 1000000) : fApp i f δ = rt (.nx (δ.set i (some (.own (xs ++ [d]))))) := by
  unfold fApp
  rw [hi]
  simp only
  rw [h, bd_rt, hd, op_some, bd_rt, if_pos hl]
theorem cat_is {xs ys : List D} (h0 : gAdd x y = none) (hx : asL x = some xs) (hy : asL y = some ys) (hl : xs.length + ys.length ≤ 1000000) : gPlus x y = rt (.new (xs ++ ys)) := by
  unfold gPlus gOr
  rw [h0]
  unfold gCat
  rw [hx, hy]
  exact if_pos hl
end
theorem gEq_int (a b : Int) : gEq false (.d (.int a)) (.d (.int b)) = rt (.d (.bool (a == b))) := rfl
def tB : DS → M Out := fIf (bAnd (fun δ => bd (e2 gLtD (eCnt (eVar 2) (eVar 3)) (eC (.int 2)) δ) tru) (fun δ => bd (e2 gLtD (eCb gLen (aCons (eVar 2) aNil)) (eVar 1) δ) tru)) (fApp 2 (eVar 3)) fNil
end LW
set_option Elab.async false
set_option linter.all false
set_option maxRecDepth 100000
set_option maxHeartbeats 1000000
set_option autoImplicit false
namespace LW
open PySem PySem.Spec L2 L3
noncomputable def hB (K : PySem.W.Frag) : DS → M Out := (fSq (fSet 7 (eCb (gCall 2 (M__law_cell_at K)) (aCons (eVar 0) (aCons (e2 gPlus (eVar 1) (eVar 6)) aNil)))) (fSq (fTg (sTup 2 (sCons (sName 8) (sCons (sName 9) sNil))) (eTup (aCons (e2 gPlus (eC (.int 1)) (eCb (gCall 3 (M__law_mix)) (aCons (eVar 7) (aCons (eC (.int 1)) (aCons (eVar 2) aNil))))) (aCons (eCb (gCall 3 (M__law_mix)) (aCons (eVar 7) (aCons (eC (.int 2)) (aCons (eVar 3) aNil)))) aNil)))) (fSq (fSet 10 (e2 gPlus (eC (.int 2)) (eCb (gCall 3 (M__law_mix)) (aCons (eVar 7) (aCons (eC (.int 3)) (aCons (eC (.int 4)) aNil)))))) (fSq (fIf (fun δ => bd (e2 (gEq false) (eCb (gCall 3 (M__law_mix)) (aCons (eVar 7) (aCons (eC (.int 4)) (aCons (eC (.int 2)) aNil)))) (eC (.int 0)) δ) tru) (fSet 5 (e2 gPlus (eVar 5) (eComp 1 [9] (iR2 (aCons (eVar 8) (aCons (e2 gPlus (eCb gMin (aCons (eVar 2) (aCons (e2 gSub (e2 gPlus (eVar 8) (eVar 10)) (eC (.int 1))) aNil))) (eC (.int 1))) aNil))) (sName 0) bYes (eTup (aCons (eVar 0) (aCons (eVar 1) aNil)))))) (fSet 5 (e2 gPlus (eVar 5) (eComp 1 [8, 7] (iR1 (aCons (eVar 3) aNil)) (sName 0) (fun δ => bd (e2 gGt (eCb (gCall 3 (M__law_mix)) (aCons (eVar 2) (aCons (e2 gPlus (eC (.int 10)) (eVar 0)) (aCons (eC (.int 4)) aNil)))) (eC (.int 0)) δ) tru) (eTup (aCons (eVar 1) (aCons (eVar 0) aNil))))))) (fIf (fun δ => bd (e2 (gEq false) (eCb (gCall 3 (M__law_mix)) (aCons (eVar 7) (aCons (eC (.int 5)) (aCons (eC (.int 3)) aNil)))) (eC (.int 0)) δ) tru) (fApp 5 (eTup (aCons (e2 gPlus (eC (.int 1)) (eCb (gCall 3 (M__law_mix)) (aCons (eVar 7) (aCons (eC (.int 6)) (aCons (eVar 2) aNil))))) (aCons (eCb (gCall 3 (M__law_mix)) (aCons (eVar 7) (aCons (eC (.int 7)) (aCons (eVar 3) aNil)))) aNil)))) fNil)))))
section
variable (K : PySem.W.Frag) (ns : List Int) (m c st lim : Int)
def hδ (ts : List (Int × Int)) (x6 x7 x8 x9 x10 : Option DV) : DS := [some (.scr K ns), some (.d (.int st)), some (.d (.int m)), some (.d (.int c)), some (.d (.int lim)), some (.own (ts.map pr)), x6, x7, x8, x9, x10]
theorem comp_filby {α : Type} {f : α → D} {gc : DS → M Bool} {fe : DS → M DV} {δ : DS} {b : α → Bool} {g : α → D} : ∀ {as : List α}, (∀ a ∈ as, gc (δ.set 0 (some (.d (f a)))) = rt (b a) ∧ fe (δ.set 0 (some (.d (f a)))) = rt (.d (g a))) → compD (sName 0) gc fe δ (as.map f) = some ((as.filter b).map g)
  | [], _ => rfl
  | a :: r, h => by
    obtain ⟨h1, h2⟩ := h a List.mem_cons_self
    have ih := comp_filby (as := r) fun e he => h e (List.mem_cons_of_mem _ he)
    rw [List.map_cons]
    unfold compD
    simp only [sName]
    rw [h1]
    cases hb : b a with
    | false =>
      rw [List.filter_cons_of_neg (by simp [hb])]
      exact ih
    | true =>
      rw [List.filter_cons_of_pos hb]
      simp only [rt]
      rw [h2, ih]
      rfl
theorem tg_is {sf : D → DS → Option DS} {f : DS → M DV} {δ δ' : DS} {x : DV} {d : D} (h : f δ = rt x) (hd : asD x = some d) (hs : sf d δ = some δ') : fTg sf f δ = rt (.nx δ') := by
  unfold fTg
  rw [h, bd_rt, hd, op_some, bd_rt, hs]
  rfl
variable {m c}
end
end LW
set_option Elab.async false
set_option linter.all false
set_option maxRecDepth 100000
set_option maxHeartbeats 1000000
set_option autoImplicit false
namespace LW
open PySem PySem.Spec L2 L3
end LW
set_option Elab.async false
set_option linter.all false
set_option maxRecDepth 100000
set_option maxHeartbeats 1000000
set_option autoImplicit false
namespace LW
open PySem PySem.Spec L2 L3
section
variable (m c : Int) (ps : List (Int × Int)) (cell : Int)
theorem lenE (δ : DS) (i : Nat) (hi : δ[i]? = some (some (.d (.list (ps.map pr))))) : eCb gLen (aCons (eVar i) aNil) δ = rt (.d (.int (ps.length : Int))) := by
  have hv : eVar i δ = rt (.d (.list (ps.map pr))) := by unfold eVar; rw [hi]; rfl
  rw [cb_is (a1_is hv)]
  exact gLen_prs ps
end
end LW
set_option Elab.async false
set_option linter.all false
set_option maxRecDepth 100000
set_option maxHeartbeats 1000000
set_option autoImplicit false
namespace LW
open PySem PySem.Spec L2 L3
def F_is_run (C : Addr) : DS → M Out := (fSq (fSet 4 (e2 gSub (e2 gPlus3 (eVar 2) (eVar 3)) (eC (.int 1)))) (fRet (eAnd (e2 gGe (eVar 3) (eC (.int 3))) (eAnd (eCb (gCall 2 (M_is_tile C)) (aCons (eVar 0) (aCons (eTup (aCons (eVar 2) (aCons (eVar 1) aNil))) aNil))) (eCb (gCall 2 (M_is_tile C)) (aCons (eVar 0) (aCons (eTup (aCons (eVar 4) (aCons (eVar 1) aNil))) aNil)))))))
def M_is_run (C : Addr) : List DV → M DV := mir ["house", "colour", "first", "size", "last"] (F_is_run C)
def F_is_group (C : Addr) : DS → M Out := (fSq (fIf (fun δ => bd (e2 gLtD (eCb gLen (aCons (eVar 2) aNil)) (eC (.int 3)) δ) tru) (fRet (eC (.bool false))) fNil) (fSq (fIf (bNot (fun δ => bd ((eCb gAll (aCons (eComp 1 [0, 1] (iTp (eVar 2)) (sName 0) bYes (eCb (gCall 2 (M_is_tile C)) (aCons (eVar 1) (aCons (eTup (aCons (eVar 2) (aCons (eVar 0) aNil))) aNil)))) aNil)) δ) tru)) (fRet (eC (.bool false))) fNil) (fRet (eCb gAll (aCons (eComp 1 [2] (iR2 (aCons (eC (.int 1)) (aCons (eCb gLen (aCons (eVar 2) aNil)) aNil))) (sName 0) bYes (e2 gLtD (e2 gIx (eVar 1) (e2 gSub (eVar 0) (eC (.int 1)))) (e2 gIx (eVar 1) (eVar 0)))) aNil)))))
def M_is_group (C : Addr) : List DV → M DV := mir ["house", "number", "colours"] (F_is_group C)
def F_is_meld (C : Addr) : DS → M Out := (fSq (fIf (fun δ => bd (e2 (gEq false) (e2 gIx (eVar 1) (eC (.int 0))) (eC (.str "run")) δ) tru) (fRet (eCb (gCall 4 (M_is_run C)) (aCons (eVar 0) (aCons (e2 gIx (eVar 1) (eC (.int 1))) (aCons (e2 gIx (eVar 1) (eC (.int 2))) (aCons (e2 gIx (eVar 1) (eC (.int 3))) aNil)))))) fNil) (fRet (eAnd (e2 (gEq false) (e2 gIx (eVar 1) (eC (.int 0))) (eC (.str "group"))) (eCb (gCall 3 (M_is_group C)) (aCons (eVar 0) (aCons (e2 gIx (eVar 1) (eC (.int 1))) (aCons (e2 gIx (eVar 1) (eC (.int 2))) aNil)))))))
def M_is_meld (C : Addr) : List DV → M DV := mir ["house", "meld"] (F_is_meld C)
def F_tiles_of (C : Addr) (E_BadLaying : Addr) : DS → M Out := (fSq (fIf (bNot (fun δ => bd ((eCb (gCall 2 (M_is_meld C)) (aCons (eVar 0) (aCons (eVar 1) aNil))) δ) tru)) (fun _ => some (.error (.ref E_BadLaying))) fNil) (fSq (fIf (fun δ => bd (e2 (gEq false) (e2 gIx (eVar 1) (eC (.int 0))) (eC (.str "run")) δ) tru) (fRet (eComp 1 [1] (iR1 (aCons (e2 gIx (eVar 1) (eC (.int 3))) aNil)) (sName 0) bYes (eTup (aCons (e2 gPlus3 (e2 gIx (eVar 1) (eC (.int 2))) (eVar 0)) (aCons (e2 gIx (eVar 1) (eC (.int 1))) aNil))))) fNil) (fRet (eComp 1 [1] (iTp (e2 gIx (eVar 1) (eC (.int 2)))) (sName 0) bYes (eTup (aCons (e2 gIx (eVar 1) (eC (.int 1))) (aCons (eVar 0) aNil)))))))
def M_tiles_of (C : Addr) (E_BadLaying : Addr) : List DV → M DV := mir ["house", "meld"] (F_tiles_of C E_BadLaying)
def F_colour_choices (C : Addr) : DS → M Out := (fSq (fSet 1 (eLst (aCons (eTup aNil) aNil))) (fSq (fFor (iR1 (aCons (eFld C "colours" (eVar 0)) aNil)) (sName 2) (fun δ => (fSet 1 (e2 gPlus3 (eVar 1) (eComp 1 [2] (iLs (eVar 1)) (sName 0) bYes (e2 gPlus3 (eVar 0) (eTup (aCons (eVar 1) aNil)))))) (frz 1 δ))) (fun δ => (fRet (eCb gSrt (aCons (eComp 1 [] (iLs (eVar 1)) (sName 0) (fun δ => bd (e2 gGe (eCb gLen (aCons (eVar 0) aNil)) (eC (.int 3)) δ) tru) (eVar 0)) aNil))) (frz 1 δ))))
def M_colour_choices (C : Addr) : List DV → M DV := mir ["house", "choices", "colour"] (F_colour_choices C)
def F_all_groups (C : Addr) : DS → M Out := (fSq (fSet 1 (eCb (gCall 1 (M_colour_choices C)) (aCons (eVar 0) aNil))) (fSq (fSet 2 (eLst aNil)) (fSq (fFor (iR2 (aCons (eC (.int 1)) (aCons (e2 gPlus3 (eFld C "most" (eVar 0)) (eC (.int 1))) aNil))) (sName 3) (fun δ => (fExt 2 (eComp 1 [3] (iLs (eVar 1)) (sName 0) bYes (eTup (aCons (eC (.str "group")) (aCons (eVar 1) (aCons (eVar 0) aNil)))))) (frz 1 δ))) (fRet (eVar 2)))))
def M_all_groups (C : Addr) : List DV → M DV := mir ["house", "choices", "found", "number"] (F_all_groups C)
def F_all_runs (C : Addr) : DS → M Out := (fSq (fSet 1 (eLst aNil)) (fSq (fFor (iR1 (aCons (eFld C "colours" (eVar 0)) aNil)) (sName 2) (fFor (iR2 (aCons (eC (.int 1)) (aCons (e2 gPlus3 (eFld C "most" (eVar 0)) (eC (.int 1))) aNil))) (sName 3) (fSq (fSet 4 (e2 gPlus3 (e2 gSub (eFld C "most" (eVar 0)) (eVar 3)) (eC (.int 1)))) (fExt 1 (eComp 1 [2, 3] (iR2 (aCons (eC (.int 3)) (aCons (e2 gPlus3 (eVar 4) (eC (.int 1))) aNil))) (sName 0) bYes (eTup (aCons (eC (.str "run")) (aCons (eVar 1) (aCons (eVar 2) (aCons (eVar 0) aNil)))))))))) (fRet (eVar 1))))
def M_all_runs (C : Addr) : List DV → M DV := mir ["house", "found", "colour", "first", "room"] (F_all_runs C)
def F_melds (C : Addr) : DS → M Out := (fRet (e2 gPlus3 (eCb (gCall 1 (M_all_groups C)) (aCons (eVar 0) aNil)) (eCb (gCall 1 (M_all_runs C)) (aCons (eVar 0) aNil))))
def M_melds (C : Addr) : List DV → M DV := mir ["house"] (F_melds C)
def F__law_tiles : DS → M Out := (fSq (fIf (fun δ => bd (e2 (gEq false) (e2 gIx (eVar 0) (eC (.int 0))) (eC (.str "run")) δ) tru) (fRet (eComp 1 [0] (iR1 (aCons (e2 gIx (eVar 0) (eC (.int 3))) aNil)) (sName 0) bYes (eTup (aCons (e2 gPlus3 (e2 gIx (eVar 1) (eC (.int 2))) (eVar 0)) (aCons (e2 gIx (eVar 1) (eC (.int 1))) aNil))))) fNil) (fRet (eComp 1 [0] (iTp (e2 gIx (eVar 0) (eC (.int 2)))) (sName 0) bYes (eTup (aCons (e2 gIx (eVar 1) (eC (.int 1))) (aCons (eVar 0) aNil))))))
def M__law_tiles : List DV → M DV := mir ["meld"] (F__law_tiles)
noncomputable def F__law_melds : DS → M Out := (fSq (fSet 2 (eLst aNil)) (fSq (fFor (iR1 (aCons (eVar 1) aNil)) (sName 3) (fFor (iR2 (aCons (eC (.int 1)) (aCons (e2 gPlus3 (eVar 0) (eC (.int 1))) aNil))) (sName 4) (fSet 2 (e2 gPlus3 (eVar 2) (eComp 1 [3, 4] (iR2 (aCons (e2 gPlus3 (eVar 4) (eC (.int 2))) (aCons (e2 gPlus3 (eVar 0) (eC (.int 1))) aNil))) (sName 0) bYes (eTup (aCons (eC (.str "run")) (aCons (eVar 1) (aCons (eVar 2) (aCons (e2 gPlus3 (e2 gSub (eVar 0) (eVar 2)) (eC (.int 1))) aNil)))))))))) (fSq (fSet 5 (eLst (aCons (eLst aNil) aNil))) (fSq (fFor (iR1 (aCons (eVar 1) aNil)) (sName 3) (fun δ => (fSet 5 (e2 gPlus3 (eVar 5) (eComp 1 [3] (iLs (eVar 5)) (sName 0) bYes (e2 gPlus3 (eVar 0) (eLst (aCons (eVar 1) aNil)))))) (frz 5 δ))) (fSq (fFor (iR2 (aCons (eC (.int 1)) (aCons (e2 gPlus3 (eVar 0) (eC (.int 1))) aNil))) (sName 6) (fun δ => (fSet 2 (e2 gPlus3 (eVar 2) (eComp 1 [6] (iLs (eVar 5)) (sName 0) (fun δ => bd (e2 gGt (eCb gLen (aCons (eVar 0) aNil)) (eC (.int 2)) δ) tru) (eTup (aCons (eC (.str "group")) (aCons (eVar 1) (aCons (eCb gTupC (aCons (eVar 0) aNil)) aNil))))))) (frz 5 δ))) (fRet (eCb gSrtA (aCons (eVar 2) aNil))))))))
noncomputable def M__law_melds : List DV → M DV := mir ["most", "colours", "found", "colour", "first", "kinds", "number"] (F__law_melds)
section
variable {F G : DS → M Out} {f fa fb fc fd : DS → M DV} {fr : DS → M (List DV)} {gc : DS → M Bool} {g : DV → DV → M DV} {δ δ' : DS} {x y z u : DV} {k : Bool}
theorem an_is {a b : Bool} (h1 : fa δ = rt (.d (.bool a))) (h2 : fb δ = rt (.d (.bool b))) : eAnd fa fb δ = rt (.d (.bool (a && b))) := by
  unfold eAnd
  rw [h1, bd_rt, tru_b, bd_rt, h2]
  cases a <;> rfl
theorem a4_is (h1 : fa δ = rt x) (h2 : fb δ = rt y) (h3 : fc δ = rt z) (h4 : fd δ = rt u) : aCons fa (aCons fb (aCons fc (aCons fd aNil))) δ = rt [x, y, z, u] := by
  have := a3_is h2 h3 h4
  unfold aCons at this ⊢
  rw [h1, bd_rt, this]; rfl
theorem t3_is {a b c : D} (h1 : fa δ = rt (.d a)) (h2 : fb δ = rt (.d b)) (h3 : fc δ = rt (.d c)) : eTup (aCons fa (aCons fb (aCons fc aNil))) δ = rt (.d (.tuple [a, b, c])) := by
  unfold eTup
  rw [a3_is h1 h2 h3]
  rfl
theorem t4_is {a b c e : D} (h1 : fa δ = rt (.d a)) (h2 : fb δ = rt (.d b)) (h3 : fc δ = rt (.d c)) (h4 : fd δ = rt (.d e)) : eTup (aCons fa (aCons fb (aCons fc (aCons fd aNil)))) δ = rt (.d (.tuple [a, b, c, e])) := by
  unfold eTup
  rw [a4_is h1 h2 h3 h4]
  rfl
theorem if_yes (h : gc δ = rt true) : fIf gc F G δ = F δ := by rw [if_is h]; rfl
theorem if_no (h : gc δ = rt false) : fIf gc F G δ = G δ := by rw [if_is h]; rfl
theorem iTp_is {xs : List D} (h : f δ = rt (.d (.tuple xs))) : iTp f δ = rt xs := by unfold iTp; rw [h]; rfl
theorem iLa_is {xs : List D} (h : f δ = rt x) (hx : asL x = some xs) : iLa f δ = rt xs := by unfold iLa; rw [h, bd_rt, hx]; rfl
theorem ext_is {i : Nat} {xs ys : List D} (hi : δ[i]? = some (some (.own xs))) (h : f δ = rt (.new ys)) (hl : xs.length + ys.length ≤ 1000000) : fExt i f δ = rt (.nx (δ.set i (some (.own (xs ++ ys))))) := by
  unfold fExt
  rw [hi]
  simp only
  rw [h, bd_rt]
  exact if_pos hl
end
theorem gPlus3_int (i j : Int) : gPlus3 (.d (.int i)) (.d (.int j)) = rt (.d (.int (i + j))) := rfl
theorem cat3_is {x y : DV} {xs ys : List D} (h0 : gAdd x y = none) (hx : asL x = some xs) (hy : asL y = some ys) (hl : xs.length + ys.length ≤ 1000000) : gPlus3 x y = rt (.new (xs ++ ys)) := by
  unfold gPlus3 gOr
  rw [cat_is h0 hx hy hl]
  rfl
def rn (c f n : Int) : D := .tuple [.str "run", .int c, .int f, .int n]
def tp (cs : List Int) : D := .tuple (cs.map PyData.int)
def gp (n : Int) (cs : List Int) : D := .tuple [.str "group", .int n, tp cs]
theorem eqv_rr : PyData.eqv (.str "run") (.str "run") = true := by decide +kernel
theorem eqv_gr : PyData.eqv (.str "group") (.str "run") = false := by decide +kernel
theorem eqv_rg : PyData.eqv (.str "run") (.str "group") = false := by decide +kernel
theorem eqv_gg : PyData.eqv (.str "group") (.str "group") = true := by decide +kernel
theorem gEq_s {a b : Str} {k : Bool} (h : PyData.eqv (.str a) (.str b) = k) : gEq false (.d (.str a)) (.d (.str b)) = rt (.d (.bool k)) := by
  unfold gEq
  rw [asQ_d, asQ_d]
  simp only [Bool.false_eq_true, if_false, h]
  exact if_pos (by unfold PyData.depth; omega)
def runOk (m c col f n : Int) : Bool := decide (3 ≤ n) && (tileOk m c (f, col) && tileOk m c (f + n - 1, col))
theorem tileE {C : Addr} {m c a b : Int} {fa fb : DS → M DV} {δ : DS} (h1 : fa δ = rt (hs C m c)) (h2 : fb δ = rt (.d (pr (a, b)))) : eCb (gCall 2 (M_is_tile C)) (aCons fa (aCons fb aNil)) δ = rt (.d (.bool (tileOk m c (a, b)))) :=
  call_is (a2_is h1 h2) rfl rfl (m_tile C m c (a, b))
theorem m_is_run (C : Addr) (m c col f n : Int) : M_is_run C [hs C m c, .d (.int col), .d (.int f), .d (.int n)] = rt (.d (.bool (runOk m c col f n))) := by
  unfold M_is_run F_is_run mir
  have hd : dst ["house", "colour", "first", "size", "last"] [hs C m c, .d (.int col), .d (.int f), .d (.int n)] = [some (hs C m c), some (.d (.int col)), some (.d (.int f)), some (.d (.int n)), none] := rfl
  rw [hd]
  have s1 : fSet 4 (e2 gSub (e2 gPlus3 (eVar 2) (eVar 3)) (eC (.int 1))) [some (hs C m c), some (.d (.int col)), some (.d (.int f)), some (.d (.int n)), none] = rt (.nx [some (hs C m c), some (.d (.int col)), some (.d (.int f)), some (.d (.int n)), some (.d (.int (f + n - 1)))]) :=
    set_is (x := .d (.int (f + n - 1))) ((e2_is ((e2_is rfl rfl).trans (gPlus3_int f n)) rfl).trans (gSub_int _ _)) rfl
  rw [sq_nx s1]
  rw [ret_is (an_is ((e2_is (x := .d (.int n)) (y := .d (.int 3)) rfl rfl).trans (gGe_int _ _)) (an_is (tileE (a := f) (b := col) rfl (t2_is rfl rfl)) (tileE (a := f + n - 1) (b := col) rfl (t2_is rfl rfl))))]
  rfl
def asc (cs : List Int) : Bool := (List.range (cs.length - 1)).all fun k => decide (cs.getD k 0 < cs.getD (k + 1) 0)
def grpOk (m c n : Int) (cs : List Int) : Bool := decide (3 ≤ cs.length) && cs.all (fun x => tileOk m c (n, x)) && asc cs
theorem gLen_tp (cs : List Int) : gLen [.d (tp cs)] = rt (.d (.int (cs.length : Int))) := by
  show rt (DV.d (.int ((cs.map PyData.int).length : Int))) = _
  rw [List.length_map]
theorem gAll_new {xs : List D} {bs : List Bool} (h : xs = bs.map PyData.bool) : gAll [.new xs] = rt (.d (.bool (bs.all id))) := by
  rw [h]; exact gAll_is
theorem m_is_group (C : Addr) (m c n : Int) (cs : List Int) (hl : cs.length ≤ 900) : M_is_group C [hs C m c, .d (.int n), .d (tp cs)] = rt (.d (.bool (grpOk m c n cs))) := by
  unfold M_is_group F_is_group mir
  have hd : dst ["house", "number", "colours"] [hs C m c, .d (.int n), .d (tp cs)] = [some (hs C m c), some (.d (.int n)), some (.d (tp cs))] := rfl
  rw [hd]
  have t1 : (fun δ => bd (e2 gLtD (eCb gLen (aCons (eVar 2) aNil)) (eC (.int 3)) δ) tru) [some (hs C m c), some (.d (.int n)), some (.d (tp cs))] = rt (decide ((cs.length : Int) < 3)) :=
    tst_is ((e2_is (y := .d (.int 3)) ((cb_is (a1_is (x := .d (tp cs)) rfl)).trans (gLen_tp cs)) rfl).trans (gLtD_int _ _))
  unfold grpOk
  by_cases h3 : 3 ≤ cs.length
  · have e3 : decide ((cs.length : Int) < 3) = false := decide_eq_false (by omega)
    rw [e3] at t1
    rw [sq_nx ((if_no t1).trans (show fNil _ = _ from rfl))]
    have c1 : compD (sName 0) bYes (eCb (gCall 2 (M_is_tile C)) (aCons (eVar 1) (aCons (eTup (aCons (eVar 2) (aCons (eVar 0) aNil))) aNil))) (subD 1 [0, 1] [some (hs C m c), some (.d (.int n)), some (.d (tp cs))]) (cs.map PyData.int) = some ((cs.map fun x => tileOk m c (n, x)).map PyData.bool) := by
      rw [List.map_map]
      refine comp_by fun x hx => ?_
      exact tileE (a := n) (b := x) rfl (t2_is rfl rfl)
    have t2 : (bNot (fun δ => bd ((eCb gAll (aCons (eComp 1 [0, 1] (iTp (eVar 2)) (sName 0) bYes (eCb (gCall 2 (M_is_tile C)) (aCons (eVar 1) (aCons (eTup (aCons (eVar 2) (aCons (eVar 0) aNil))) aNil)))) aNil)) δ) tru)) [some (hs C m c), some (.d (.int n)), some (.d (tp cs))] = rt (!cs.all fun x => tileOk m c (n, x)) := by
      refine not_is (tst_is ((cb_is (a1_is (eComp_is (iTp_is (xs := cs.map PyData.int) rfl) (by rw [List.length_map]; omega) c1))).trans ?_))
      rw [gAll_is, List.all_map]
      rfl
    cases ha : cs.all fun x => tileOk m c (n, x) with
    | false =>
      rw [ha] at t2
      rw [sq_rt ((if_yes t2).trans (ret_is (x := .d (.bool false)) rfl))]
      rw [Bool.and_false, Bool.false_and]
      rfl
    | true =>
      rw [ha] at t2
      rw [sq_nx ((if_no t2).trans (show fNil _ = _ from rfl))]
      have hat : ∀ k : Nat, k < cs.length → atI (cs.map PyData.int) (k : Int) = some (.int (cs.getD k 0)) := fun k hk => by
        rw [atI_nn (by rw [List.length_map]; exact hk) (.int 0)]
        simp [hk]
      have c2 : compD (sName 0) bYes (e2 gLtD (e2 gIx (eVar 1) (e2 gSub (eVar 0) (eC (.int 1)))) (e2 gIx (eVar 1) (eVar 0))) (subD 1 [2] [some (hs C m c), some (.d (.int n)), some (.d (tp cs))]) (runI 1 ((cs.length : Int) - 1).toNat) = some (((List.range (cs.length - 1)).map fun k => decide (cs.getD k 0 < cs.getD (k + 1) 0)).map PyData.bool) := by
        rw [show ((cs.length : Int) - 1).toNat = cs.length - 1 by omega, List.map_map]
        unfold runI
        refine comp_by fun k hk => ?_
        have hk' : k < cs.length - 1 := List.mem_range.mp hk
        have i1 : e2 gIx (eVar 1) (e2 gSub (eVar 0) (eC (.int 1))) ((subD 1 [2] [some (hs C m c), some (.d (.int n)), some (.d (tp cs))]).set 0 (some (.d (.int (1 + (k : Int)))))) = rt (.d (.int (cs.getD k 0))) := by
          refine (e2_is (x := .d (tp cs)) rfl ((e2_is (x := .d (.int (1 + (k : Int)))) rfl rfl).trans (gSub_int _ _))).trans (gIx_tup ?_)
          rw [show (1 + (k : Int) - 1) = (k : Int) by omega]
          exact hat k (by omega)
        have i2 : e2 gIx (eVar 1) (eVar 0) ((subD 1 [2] [some (hs C m c), some (.d (.int n)), some (.d (tp cs))]).set 0 (some (.d (.int (1 + (k : Int)))))) = rt (.d (.int (cs.getD (k + 1) 0))) := by
          refine (e2_is (x := .d (tp cs)) (y := .d (.int (1 + (k : Int)))) rfl rfl).trans (gIx_tup ?_)
          rw [show (1 + (k : Int)) = ((k + 1 : Nat) : Int) by omega]
          exact hat (k + 1) (by omega)
        exact (e2_is i1 i2).trans (gLtD_int _ _)
      have lenE : eCb gLen (aCons (eVar 2) aNil) [some (hs C m c), some (.d (.int n)), some (.d (tp cs))] = rt (.d (.int (cs.length : Int))) := (cb_is (a1_is (x := .d (tp cs)) rfl)).trans (gLen_tp cs)
      have e1 : eCb gAll (aCons (eComp 1 [2] (iR2 (aCons (eC (.int 1)) (aCons (eCb gLen (aCons (eVar 2) aNil)) aNil))) (sName 0) bYes (e2 gLtD (e2 gIx (eVar 1) (e2 gSub (eVar 0) (eC (.int 1)))) (e2 gIx (eVar 1) (eVar 0)))) aNil) [some (hs C m c), some (.d (.int n)), some (.d (tp cs))] = rt (.d (.bool (asc cs))) := by
        refine (cb_is (a1_is (eComp_is (iR2_is (a2_is (x := .d (.int 1)) rfl lenE) (by omega) (by omega) (by omega) (by omega)) (by rw [runI_len]; omega) c2))).trans ?_
        rw [gAll_is, List.all_map]
        rfl
      rw [ret_is e1]
      rw [decide_eq_true h3]
      rfl
  · have e3 : decide ((cs.length : Int) < 3) = true := decide_eq_true (by omega)
    rw [e3] at t1
    rw [sq_rt ((if_yes t1).trans (ret_is (x := .d (.bool false)) rfl))]
    rw [decide_eq_false h3]
    rfl
theorem m_meld_run (C : Addr) (m c col f n : Int) : M_is_meld C [hs C m c, .d (rn col f n)] = rt (.d (.bool (runOk m c col f n))) := by
  unfold M_is_meld F_is_meld mir
  have hd : dst ["house", "meld"] [hs C m c, .d (rn col f n)] = [some (hs C m c), some (.d (rn col f n))] := rfl
  rw [hd]
  have t1 : (fun δ => bd (e2 (gEq false) (e2 gIx (eVar 1) (eC (.int 0))) (eC (.str "run")) δ) tru) [some (hs C m c), some (.d (rn col f n))] = rt true :=
    tst_is ((e2_is ((e2_is (x := .d (rn col f n)) rfl rfl).trans (gIx_tup rfl)) rfl).trans (gEq_s eqv_rr))
  have i1 : e2 gIx (eVar 1) (eC (.int 1)) [some (hs C m c), some (.d (rn col f n))] = rt (.d (.int col)) := (e2_is (x := .d (rn col f n)) rfl rfl).trans (gIx_tup rfl)
  have i2 : e2 gIx (eVar 1) (eC (.int 2)) [some (hs C m c), some (.d (rn col f n))] = rt (.d (.int f)) := (e2_is (x := .d (rn col f n)) rfl rfl).trans (gIx_tup rfl)
  have i3 : e2 gIx (eVar 1) (eC (.int 3)) [some (hs C m c), some (.d (rn col f n))] = rt (.d (.int n)) := (e2_is (x := .d (rn col f n)) rfl rfl).trans (gIx_tup rfl)
  rw [sq_rt ((if_yes t1).trans (ret_is (call_is (n := 4) (a4_is (fa := eVar 0) (x := hs C m c) rfl i1 i2 i3) rfl rfl (m_is_run C m c col f n))))]
  rfl
theorem m_meld_grp (C : Addr) (m c n : Int) (cs : List Int) (hl : cs.length ≤ 900) : M_is_meld C [hs C m c, .d (gp n cs)] = rt (.d (.bool (grpOk m c n cs))) := by
  unfold M_is_meld F_is_meld mir
  have hd : dst ["house", "meld"] [hs C m c, .d (gp n cs)] = [some (hs C m c), some (.d (gp n cs))] := rfl
  rw [hd]
  have t1 : (fun δ => bd (e2 (gEq false) (e2 gIx (eVar 1) (eC (.int 0))) (eC (.str "run")) δ) tru) [some (hs C m c), some (.d (gp n cs))] = rt false :=
    tst_is ((e2_is ((e2_is (x := .d (gp n cs)) rfl rfl).trans (gIx_tup rfl)) rfl).trans (gEq_s eqv_gr))
  have i0 : e2 (gEq false) (e2 gIx (eVar 1) (eC (.int 0))) (eC (.str "group")) [some (hs C m c), some (.d (gp n cs))] = rt (.d (.bool true)) := (e2_is ((e2_is (x := .d (gp n cs)) rfl rfl).trans (gIx_tup rfl)) rfl).trans (gEq_s eqv_gg)
  have i1 : e2 gIx (eVar 1) (eC (.int 1)) [some (hs C m c), some (.d (gp n cs))] = rt (.d (.int n)) := (e2_is (x := .d (gp n cs)) rfl rfl).trans (gIx_tup rfl)
  have i2 : e2 gIx (eVar 1) (eC (.int 2)) [some (hs C m c), some (.d (gp n cs))] = rt (.d (tp cs)) := (e2_is (x := .d (gp n cs)) rfl rfl).trans (gIx_tup rfl)
  rw [sq_nx ((if_no t1).trans (show fNil _ = _ from rfl))]
  rw [ret_is (an_is i0 (call_is (n := 3) (a3_is (fa := eVar 0) (x := hs C m c) rfl i1 i2) rfl rfl (m_is_group C m c n cs hl)))]
  rfl
def tilesR (col f n : Int) : List D := (List.range n.toNat).map fun (k : Nat) => pr (f + (k : Int), col)
def tilesG (n : Int) (cs : List Int) : List D := cs.map fun x => pr (n, x)
theorem m_tiles_run (C E : Addr) (m c col f n : Int) (h0 : -1000 ≤ n) (h1 : n ≤ 1000) : M_tiles_of C E [hs C m c, .d (rn col f n)] = if runOk m c col f n = true then rt (.new (tilesR col f n)) else some (.error (.ref E)) := by
  unfold M_tiles_of F_tiles_of mir
  have hd : dst ["house", "meld"] [hs C m c, .d (rn col f n)] = [some (hs C m c), some (.d (rn col f n))] := rfl
  rw [hd]
  have t0 : (bNot (fun δ => bd ((eCb (gCall 2 (M_is_meld C)) (aCons (eVar 0) (aCons (eVar 1) aNil))) δ) tru)) [some (hs C m c), some (.d (rn col f n))] = rt (!runOk m c col f n) :=
    not_is (tst_is (call_is (a2_is (x := hs C m c) (y := .d (rn col f n)) rfl rfl) rfl rfl (m_meld_run C m c col f n)))
  cases hr : runOk m c col f n with
  | false =>
    rw [hr] at t0
    have : fIf (bNot (fun δ => bd ((eCb (gCall 2 (M_is_meld C)) (aCons (eVar 0) (aCons (eVar 1) aNil))) δ) tru)) (fun _ => some (.error (.ref E))) fNil [some (hs C m c), some (.d (rn col f n))] = some (.error (.ref E)) := if_yes t0
    unfold fSq
    rw [this]
    rfl
  | true =>
    rw [hr] at t0
    rw [sq_nx ((if_no t0).trans (show fNil _ = _ from rfl))]
    have t1 : (fun δ => bd (e2 (gEq false) (e2 gIx (eVar 1) (eC (.int 0))) (eC (.str "run")) δ) tru) [some (hs C m c), some (.d (rn col f n))] = rt true :=
      tst_is ((e2_is ((e2_is (x := .d (rn col f n)) rfl rfl).trans (gIx_tup rfl)) rfl).trans (gEq_s eqv_rr))
    have i3 : e2 gIx (eVar 1) (eC (.int 3)) [some (hs C m c), some (.d (rn col f n))] = rt (.d (.int n)) := (e2_is (x := .d (rn col f n)) rfl rfl).trans (gIx_tup rfl)
    have c1 : compD (sName 0) bYes (eTup (aCons (e2 gPlus3 (e2 gIx (eVar 1) (eC (.int 2))) (eVar 0)) (aCons (e2 gIx (eVar 1) (eC (.int 1))) aNil))) (subD 1 [1] [some (hs C m c), some (.d (rn col f n))]) (runI 0 n.toNat) = some (tilesR col f n) := by
      unfold runI tilesR
      refine comp_by fun k hk => ?_
      have q1 : e2 gIx (eVar 1) (eC (.int 2)) ((subD 1 [1] [some (hs C m c), some (.d (rn col f n))]).set 0 (some (.d (.int (0 + (k : Int)))))) = rt (.d (.int f)) := (e2_is (x := .d (rn col f n)) rfl rfl).trans (gIx_tup rfl)
      have q2 : e2 gIx (eVar 1) (eC (.int 1)) ((subD 1 [1] [some (hs C m c), some (.d (rn col f n))]).set 0 (some (.d (.int (0 + (k : Int)))))) = rt (.d (.int col)) := (e2_is (x := .d (rn col f n)) rfl rfl).trans (gIx_tup rfl)
      refine (t2_is ((e2_is (y := .d (.int (0 + (k : Int)))) q1 rfl).trans (gPlus3_int _ _)) q2).trans ?_
      rw [Int.zero_add]; rfl
    rw [sq_rt ((if_yes t1).trans (ret_is (eComp_is (iR1_is (a1_is i3) h0 h1) (by rw [runI_len]; omega) c1)))]
    rfl
theorem m_tiles_grp (C E : Addr) (m c n : Int) (cs : List Int) (hl : cs.length ≤ 900) : M_tiles_of C E [hs C m c, .d (gp n cs)] = if grpOk m c n cs = true then rt (.new (tilesG n cs)) else some (.error (.ref E)) := by
  unfold M_tiles_of F_tiles_of mir
  have hd : dst ["house", "meld"] [hs C m c, .d (gp n cs)] = [some (hs C m c), some (.d (gp n cs))] := rfl
  rw [hd]
  have t0 : (bNot (fun δ => bd ((eCb (gCall 2 (M_is_meld C)) (aCons (eVar 0) (aCons (eVar 1) aNil))) δ) tru)) [some (hs C m c), some (.d (gp n cs))] = rt (!grpOk m c n cs) :=
    not_is (tst_is (call_is (a2_is (x := hs C m c) (y := .d (gp n cs)) rfl rfl) rfl rfl (m_meld_grp C m c n cs hl)))
  cases hr : grpOk m c n cs with
  | false =>
    rw [hr] at t0
    have : fIf (bNot (fun δ => bd ((eCb (gCall 2 (M_is_meld C)) (aCons (eVar 0) (aCons (eVar 1) aNil))) δ) tru)) (fun _ => some (.error (.ref E))) fNil [some (hs C m c), some (.d (gp n cs))] = some (.error (.ref E)) := if_yes t0
    unfold fSq
    rw [this]
    rfl
  | true =>
    rw [hr] at t0
    rw [sq_nx ((if_no t0).trans (show fNil _ = _ from rfl))]
    have t1 : (fun δ => bd (e2 (gEq false) (e2 gIx (eVar 1) (eC (.int 0))) (eC (.str "run")) δ) tru) [some (hs C m c), some (.d (gp n cs))] = rt false :=
      tst_is ((e2_is ((e2_is (x := .d (gp n cs)) rfl rfl).trans (gIx_tup rfl)) rfl).trans (gEq_s eqv_gr))
    rw [sq_nx ((if_no t1).trans (show fNil _ = _ from rfl))]
    have i2 : e2 gIx (eVar 1) (eC (.int 2)) [some (hs C m c), some (.d (gp n cs))] = rt (.d (tp cs)) := (e2_is (x := .d (gp n cs)) rfl rfl).trans (gIx_tup rfl)
    have c1 : compD (sName 0) bYes (eTup (aCons (e2 gIx (eVar 1) (eC (.int 1))) (aCons (eVar 0) aNil))) (subD 1 [1] [some (hs C m c), some (.d (gp n cs))]) (cs.map PyData.int) = some (tilesG n cs) := by
      unfold tilesG
      refine comp_by fun x hx => ?_
      have q1 : e2 gIx (eVar 1) (eC (.int 1)) ((subD 1 [1] [some (hs C m c), some (.d (gp n cs))]).set 0 (some (.d (.int x)))) = rt (.d (.int n)) := (e2_is (x := .d (gp n cs)) rfl rfl).trans (gIx_tup rfl)
      exact t2_is q1 rfl
    rw [ret_is (eComp_is (iTp_is i2) (by rw [List.length_map]; omega) c1)]
    rfl
theorem m_law_tiles_run (col f n : Int) (h0 : -1000 ≤ n) (h1 : n ≤ 1000) : M__law_tiles [.d (rn col f n)] = rt (.new (tilesR col f n)) := by
  unfold M__law_tiles F__law_tiles mir
  have hd : dst ["meld"] [.d (rn col f n)] = [some (.d (rn col f n))] := rfl
  rw [hd]
  have t1 : (fun δ => bd (e2 (gEq false) (e2 gIx (eVar 0) (eC (.int 0))) (eC (.str "run")) δ) tru) [some (.d (rn col f n))] = rt true :=
    tst_is ((e2_is ((e2_is (x := .d (rn col f n)) rfl rfl).trans (gIx_tup rfl)) rfl).trans (gEq_s eqv_rr))
  have i3 : e2 gIx (eVar 0) (eC (.int 3)) [some (.d (rn col f n))] = rt (.d (.int n)) := (e2_is (x := .d (rn col f n)) rfl rfl).trans (gIx_tup rfl)
  have c1 : compD (sName 0) bYes (eTup (aCons (e2 gPlus3 (e2 gIx (eVar 1) (eC (.int 2))) (eVar 0)) (aCons (e2 gIx (eVar 1) (eC (.int 1))) aNil))) (subD 1 [0] [some (.d (rn col f n))]) (runI 0 n.toNat) = some (tilesR col f n) := by
    unfold runI tilesR
    refine comp_by fun k hk => ?_
    have q1 : e2 gIx (eVar 1) (eC (.int 2)) ((subD 1 [0] [some (.d (rn col f n))]).set 0 (some (.d (.int (0 + (k : Int)))))) = rt (.d (.int f)) := (e2_is (x := .d (rn col f n)) rfl rfl).trans (gIx_tup rfl)
    have q2 : e2 gIx (eVar 1) (eC (.int 1)) ((subD 1 [0] [some (.d (rn col f n))]).set 0 (some (.d (.int (0 + (k : Int)))))) = rt (.d (.int col)) := (e2_is (x := .d (rn col f n)) rfl rfl).trans (gIx_tup rfl)
    refine (t2_is ((e2_is (y := .d (.int (0 + (k : Int)))) q1 rfl).trans (gPlus3_int _ _)) q2).trans ?_
    rw [Int.zero_add]; rfl
  rw [sq_rt ((if_yes t1).trans (ret_is (eComp_is (iR1_is (a1_is i3) h0 h1) (by rw [runI_len]; omega) c1)))]
  rfl
theorem m_law_tiles_grp (n : Int) (cs : List Int) (hl : cs.length ≤ 900) : M__law_tiles [.d (gp n cs)] = rt (.new (tilesG n cs)) := by
  unfold M__law_tiles F__law_tiles mir
  have hd : dst ["meld"] [.d (gp n cs)] = [some (.d (gp n cs))] := rfl
  rw [hd]
  have t1 : (fun δ => bd (e2 (gEq false) (e2 gIx (eVar 0) (eC (.int 0))) (eC (.str "run")) δ) tru) [some (.d (gp n cs))] = rt false :=
    tst_is ((e2_is ((e2_is (x := .d (gp n cs)) rfl rfl).trans (gIx_tup rfl)) rfl).trans (gEq_s eqv_gr))
  rw [sq_nx ((if_no t1).trans (show fNil _ = _ from rfl))]
  have i2 : e2 gIx (eVar 0) (eC (.int 2)) [some (.d (gp n cs))] = rt (.d (tp cs)) := (e2_is (x := .d (gp n cs)) rfl rfl).trans (gIx_tup rfl)
  have c1 : compD (sName 0) bYes (eTup (aCons (e2 gIx (eVar 1) (eC (.int 1))) (aCons (eVar 0) aNil))) (subD 1 [0] [some (.d (gp n cs))]) (cs.map PyData.int) = some (tilesG n cs) := by
    unfold tilesG
    refine comp_by fun x hx => ?_
    have q1 : e2 gIx (eVar 1) (eC (.int 1)) ((subD 1 [0] [some (.d (gp n cs))]).set 0 (some (.d (.int x)))) = rt (.d (.int n)) := (e2_is (x := .d (gp n cs)) rfl rfl).trans (gIx_tup rfl)
    exact t2_is q1 rfl
  rw [ret_is (eComp_is (iTp_is i2) (by rw [List.length_map]; omega) c1)]
  rfl
end LW
set_option Elab.async false
set_option linter.all false
set_option maxRecDepth 100000
set_option maxHeartbeats 1000000
set_option autoImplicit false
namespace LW
open PySem PySem.Spec L2 L3
theorem loop_I {α : Type} {f : α → D} {i N : Nat} {B : DS → M Out} {all : List α} (I : List α → DS → Prop)
    (h : ∀ pre a δ, a ∈ all → pre.length < N → I pre δ → ∃ δ', B (δ.set i (some (.d (f a)))) = rt (.nx δ') ∧ I (pre ++ [a]) δ') :
    ∀ (as pre : List α) (δ : DS), (∀ a ∈ as, a ∈ all) → pre.length + as.length ≤ N → I pre δ → ∃ δ', loopD (sName i) B (as.map f) δ = rt (.nx δ') ∧ I (pre ++ as) δ'
  | [], pre, δ, _, _, hI => ⟨δ, rfl, by rw [List.append_nil]; exact hI⟩
  | a :: as, pre, δ, ha, hn, hI => by
    simp only [List.length_cons] at hn
    obtain ⟨δ1, e1, h1⟩ := h pre a δ (ha a List.mem_cons_self) (by omega) hI
    obtain ⟨δ2, e2, h2⟩ := loop_I I h as (pre ++ [a]) δ1 (fun x hx => ha x (List.mem_cons_of_mem _ hx)) (by simp; omega) h1
    refine ⟨δ2, ?_, by rw [List.append_assoc] at h2; exact h2⟩
    rw [List.map_cons]
    unfold loopD
    have hs : sName i (f a) δ = some (δ.set i (some (.d (f a)))) := rfl
    rw [hs, op_some, bd_rt, e1, bd_rt, lpo_nx]
    exact e2
theorem runI_zero (n : Nat) : runI 0 n = (List.range n).map fun (k : Nat) => PyData.int (k : Int) := by
  unfold runI
  refine List.map_congr_left fun k _ => ?_
  rw [Int.zero_add]
def runsF (m col f0 : Nat) : List D := (List.range (m - 2 - f0)).map fun (s : Nat) => rn (col : Int) (1 + (f0 : Int)) (3 + (s : Int))
def runsC (m col : Nat) : List D := (List.range m).flatMap (runsF m col)
def runsL (m c : Nat) : List D := (List.range c).flatMap (runsC m)
theorem runsF_len (m col f0 : Nat) (h : m ≤ 13) : (runsF m col f0).length ≤ 13 := by unfold runsF; simp; omega
theorem flat_len {α : Type} {g : α → List D} {k : Nat} (h : ∀ a, (g a).length ≤ k) : ∀ as : List α, (as.flatMap g).length ≤ k * as.length
  | [] => by simp
  | a :: as => by
    have := h a
    have := flat_len h as
    rw [List.flatMap_cons, List.length_append, List.length_cons, Nat.mul_succ]; omega
def rF (C : Addr) : DS → M Out := (fSq (fSet 4 (e2 gPlus3 (e2 gSub (eFld C "most" (eVar 0)) (eVar 3)) (eC (.int 1)))) (fExt 1 (eComp 1 [2, 3] (iR2 (aCons (eC (.int 3)) (aCons (e2 gPlus3 (eVar 4) (eC (.int 1))) aNil))) (sName 0) bYes (eTup (aCons (eC (.str "run")) (aCons (eVar 1) (aCons (eVar 2) (aCons (eVar 0) aNil))))))))
def rC (C : Addr) : DS → M Out := (fFor (iR2 (aCons (eC (.int 1)) (aCons (e2 gPlus3 (eFld C "most" (eVar 0)) (eC (.int 1))) aNil))) (sName 3) (rF C))
section
variable (C : Addr) (m c : Nat)
theorem rF_turn (hm : m ≤ 13) (c' : Int) (col f0 : Nat) (hf : f0 < m) (base : List D) (hb : base.length ≤ 1000) (x4 : Option DV) :
    rF C [some (hs C m c'), some (.own base), some (.d (.int (col : Int))), some (.d (.int (1 + (f0 : Int)))), x4] = rt (.nx [some (hs C m c'), some (.own (base ++ runsF m col f0)), some (.d (.int (col : Int))), some (.d (.int (1 + (f0 : Int)))), some (.d (.int ((m : Int) - (1 + (f0 : Int)) + 1)))]) := by
  have fl : eFld C "most" (eVar 0) [some (hs C m c'), some (.own base), some (.d (.int (col : Int))), some (.d (.int (1 + (f0 : Int)))), x4] = rt (.d (.int m)) := gFld_most C m c'
  have s1 : fSet 4 (e2 gPlus3 (e2 gSub (eFld C "most" (eVar 0)) (eVar 3)) (eC (.int 1))) [some (hs C m c'), some (.own base), some (.d (.int (col : Int))), some (.d (.int (1 + (f0 : Int)))), x4] = rt (.nx [some (hs C m c'), some (.own base), some (.d (.int (col : Int))), some (.d (.int (1 + (f0 : Int)))), some (.d (.int ((m : Int) - (1 + (f0 : Int)) + 1)))]) :=
    set_is (x := .d (.int ((m : Int) - (1 + (f0 : Int)) + 1))) ((e2_is ((e2_is (y := .d (.int (1 + (f0 : Int)))) fl rfl).trans (gSub_int _ _)) rfl).trans (gPlus3_int _ _)) rfl
  unfold rF
  rw [sq_nx s1]
  have c1 : compD (sName 0) bYes (eTup (aCons (eC (.str "run")) (aCons (eVar 1) (aCons (eVar 2) (aCons (eVar 0) aNil))))) (subD 1 [2, 3] [some (hs C m c'), some (.own base), some (.d (.int (col : Int))), some (.d (.int (1 + (f0 : Int)))), some (.d (.int ((m : Int) - (1 + (f0 : Int)) + 1)))]) (runI 3 ((m : Int) - (1 + (f0 : Int)) + 1 + 1 - 3).toNat) = some (runsF m col f0) := by
    rw [show ((m : Int) - (1 + (f0 : Int)) + 1 + 1 - 3).toNat = m - 2 - f0 by omega]
    unfold runI runsF
    refine comp_by fun s hs => ?_
    exact t4_is rfl rfl rfl rfl
  have e1 : eComp 1 [2, 3] (iR2 (aCons (eC (.int 3)) (aCons (e2 gPlus3 (eVar 4) (eC (.int 1))) aNil))) (sName 0) bYes (eTup (aCons (eC (.str "run")) (aCons (eVar 1) (aCons (eVar 2) (aCons (eVar 0) aNil))))) [some (hs C m c'), some (.own base), some (.d (.int (col : Int))), some (.d (.int (1 + (f0 : Int)))), some (.d (.int ((m : Int) - (1 + (f0 : Int)) + 1)))] = rt (.new (runsF m col f0)) :=
    eComp_is (iR2_is (a2_is (x := .d (.int 3)) rfl ((e2_is (x := .d (.int ((m : Int) - (1 + (f0 : Int)) + 1))) (y := .d (.int 1)) rfl rfl).trans (gPlus3_int _ _))) (by omega) (by omega) (by omega) (by omega)) (by rw [runI_len]; omega) c1
  rw [ext_is (xs := base) rfl e1 (by have := runsF_len m col f0 hm; omega)]
  rfl
theorem rC_turn (hm : m ≤ 13) (c' : Int) (col : Nat) (base : List D) (hb : base.length ≤ 700) (x3 x4 : Option DV) :
    ∃ y3 y4, rC C [some (hs C m c'), some (.own base), some (.d (.int (col : Int))), x3, x4] = rt (.nx [some (hs C m c'), some (.own (base ++ runsC m col)), some (.d (.int (col : Int))), y3, y4]) := by
  have fl : e2 gPlus3 (eFld C "most" (eVar 0)) (eC (.int 1)) [some (hs C m c'), some (.own base), some (.d (.int (col : Int))), x3, x4] = rt (.d (.int ((m : Int) + 1))) := (e2_is (gFld_most C m c') rfl).trans (gPlus3_int _ _)
  unfold rC fFor
  rw [iR2_is (a2_is (x := .d (.int 1)) rfl fl) (by omega) (by omega) (by omega) (by omega), bd_rt, show ((m : Int) + 1 - 1).toNat = m by omega]
  unfold runI
  obtain ⟨δ', e, y3, y4, hδ⟩ := loop_I (f := fun (k : Nat) => PyData.int (1 + (k : Int))) (i := 3) (N := m) (B := rF C) (all := List.range m)
    (fun pre δ => ∃ y3 y4, δ = [some (hs C m c'), some (.own (base ++ pre.flatMap (runsF m col))), some (.d (.int (col : Int))), y3, y4])
    (fun pre a δ ha hp ⟨y3, y4, hδ⟩ => by
      subst hδ
      have hl := flat_len (fun a => runsF_len m col a hm) pre
      refine ⟨_, rF_turn C m hm c' col a (List.mem_range.mp ha) (base ++ pre.flatMap (runsF m col)) (by rw [List.length_append]; omega) y4, some (.d (.int (1 + (a : Int)))), some (.d (.int ((m : Int) - (1 + (a : Int)) + 1))), ?_⟩
      rw [List.flatMap_append, ← List.append_assoc, show [a].flatMap (runsF m col) = runsF m col a by simp])
    (List.range m) [] [some (hs C m c'), some (.own base), some (.d (.int (col : Int))), x3, x4] (fun _ h => h) (by simp) ⟨x3, x4, by simp⟩
  refine ⟨y3, y4, ?_⟩
  rw [e, hδ]
  rfl
theorem runsC_len (col : Nat) (hm : m ≤ 13) : (runsC m col).length ≤ 169 := by
  have := flat_len (fun a => runsF_len m col a hm) (List.range m)
  rw [List.length_range] at this
  unfold runsC
  omega
theorem m_all_runs (hm : m ≤ 13) (hc : c ≤ 4) : M_all_runs C [hs C m c] = rt (.new (runsL m c)) := by
  unfold M_all_runs F_all_runs mir
  have hd : dst ["house", "found", "colour", "first", "room"] [hs C m c] = [some (hs C m c), none, none, none, none] := rfl
  rw [hd]
  have s1 : fSet 1 (eLst aNil) [some (hs C m c), none, none, none, none] = rt (.nx [some (hs C m c), some (.own []), none, none, none]) := rfl
  rw [sq_nx s1]
  obtain ⟨δ', e, y2, y3, y4, hδ⟩ := loop_I (f := fun (k : Nat) => PyData.int (k : Int)) (i := 2) (N := c) (B := rC C) (all := List.range c)
    (fun pre δ => ∃ y2 y3 y4, δ = [some (hs C m c), some (.own (pre.flatMap (runsC m))), y2, y3, y4])
    (fun pre a δ ha hp ⟨y2, y3, y4, hδ⟩ => by
      subst hδ
      have hl := flat_len (fun a => runsC_len m a hm) pre
      obtain ⟨z3, z4, e⟩ := rC_turn C m hm c a (pre.flatMap (runsC m)) (by omega) y3 y4
      refine ⟨_, e, some (.d (.int (a : Int))), z3, z4, ?_⟩
      rw [List.flatMap_append, show [a].flatMap (runsC m) = runsC m a by simp])
    (List.range c) [] [some (hs C m c), some (.own []), none, none, none] (fun _ h => h) (by simp) ⟨none, none, none, by simp⟩
  have s2 : fFor (iR1 (aCons (eFld C "colours" (eVar 0)) aNil)) (sName 2) (rC C) [some (hs C m c), some (.own []), none, none, none] = rt (.nx [some (hs C m c), some (.own (runsL m c)), y2, y3, y4]) := by
    unfold fFor
    rw [iR1_is (a1_is (gFld_colours C m c)) (by omega) (by omega), bd_rt, show (c : Int).toNat = c by omega, runI_zero, e, hδ]
    rfl
  rw [show (fFor (iR2 (aCons (eC (.int 1)) (aCons (e2 gPlus3 (eFld C "most" (eVar 0)) (eC (.int 1))) aNil))) (sName 3) (fSq (fSet 4 (e2 gPlus3 (e2 gSub (eFld C "most" (eVar 0)) (eVar 3)) (eC (.int 1)))) (fExt 1 (eComp 1 [2, 3] (iR2 (aCons (eC (.int 3)) (aCons (e2 gPlus3 (eVar 4) (eC (.int 1))) aNil))) (sName 0) bYes (eTup (aCons (eC (.str "run")) (aCons (eVar 1) (aCons (eVar 2) (aCons (eVar 0) aNil))))))))) = rC C from rfl]
  rw [sq_nx s2, ret_is (x := .own (runsL m c)) rfl]
  rfl
end
def chA (c : Nat) : List (List Int) := match c with
  | 3 => [[0, 1, 2]]
  | 4 => [[0, 1, 2], [0, 1, 2, 3], [0, 1, 3], [0, 2, 3], [1, 2, 3]]
  | _ => []
def groupsN (ch : List (List Int)) (n0 : Nat) : List D := ch.map fun k => gp (1 + (n0 : Int)) k
def groupsL (ch : List (List Int)) (m : Nat) : List D := (List.range m).flatMap (groupsN ch)
def kC : DS → M Out := (fun δ => (fSet 1 (e2 gPlus3 (eVar 1) (eComp 1 [2] (iLs (eVar 1)) (sName 0) bYes (e2 gPlus3 (eVar 0) (eTup (aCons (eVar 1) aNil)))))) (frz 1 δ))
def kE : DS → M Out := (fun δ => (fRet (eCb gSrt (aCons (eComp 1 [] (iLs (eVar 1)) (sName 0) (fun δ => bd (e2 gGe (eCb gLen (aCons (eVar 0) aNil)) (eC (.int 3)) δ) tru) (eVar 0)) aNil))) (frz 1 δ))
section
variable (C : Addr) (m : Int)
theorem kinds_end (x : DV) (c : Nat) (h1 : 1 ≤ c) (h4 : c ≤ 4) : fSq (fun δ => loopD (sName 2) kC (runI 0 c) δ) kE [some x, some (.own [.tuple []]), none] = rt (.rt (.new ((chA c).map tp))) := by
  match c, h1, h4 with
  | 1, _, _ => kernel_rfl
  | 2, _, _ => kernel_rfl
  | 3, _, _ => kernel_rfl
  | 4, _, _ => kernel_rfl
  | n + 5, _, h => omega
theorem m_choices (c : Nat) (h1 : 1 ≤ c) (h4 : c ≤ 4) : M_colour_choices C [hs C m c] = rt (.new ((chA c).map tp)) := by
  unfold M_colour_choices F_colour_choices mir
  have hd : dst ["house", "choices", "colour"] [hs C m c] = [some (hs C m c), none, none] := rfl
  rw [hd]
  have s1 : fSet 1 (eLst (aCons (eTup aNil) aNil)) [some (hs C m c), none, none] = rt (.nx [some (hs C m c), some (.own [.tuple []]), none]) := rfl
  rw [sq_nx s1]
  have e := kinds_end (hs C m c) c h1 h4
  unfold fSq at e ⊢
  unfold fFor
  rw [iR1_is (a1_is (gFld_colours C m c)) (by omega) (by omega), bd_rt, show (c : Int).toNat = c by omega]
  exact (congrArg (fun z => bd z outR) e).trans rfl
def gB : DS → M Out := (fun δ => (fExt 2 (eComp 1 [3] (iLs (eVar 1)) (sName 0) bYes (eTup (aCons (eC (.str "group")) (aCons (eVar 1) (aCons (eVar 0) aNil)))))) (frz 1 δ))
theorem groupsN_len {ch : List (List Int)} (hch : ch.length ≤ 5) (n0 : Nat) : (groupsN ch n0).length ≤ 5 := by unfold groupsN; simp; exact hch
theorem chA_len (c : Nat) : (chA c).length ≤ 5 := by
  match c with
  | 0 | 1 | 2 | 3 | 4 => decide
  | n + 5 => exact Nat.zero_le _
theorem gB_turn (x : DV) (ch : List (List Int)) (hch : ch.length ≤ 5) (n0 : Nat) (base : List D) (hb : base.length ≤ 1000) (x1 : DV) (h1 : x1 = .own (ch.map tp) ∨ x1 = .d (.list (ch.map tp))) :
    gB [some x, some x1, some (.own base), some (.d (.int (1 + (n0 : Int))))] = rt (.nx [some x, some (.d (.list (ch.map tp))), some (.own (base ++ groupsN ch n0)), some (.d (.int (1 + (n0 : Int))))]) := by
  have hf : frz 1 [some x, some x1, some (.own base), some (.d (.int (1 + (n0 : Int))))] = [some x, some (.d (.list (ch.map tp))), some (.own base), some (.d (.int (1 + (n0 : Int))))] := by
    rcases h1 with h | h <;> (subst h; rfl)
  unfold gB
  rw [hf]
  have c1 : compD (sName 0) bYes (eTup (aCons (eC (.str "group")) (aCons (eVar 1) (aCons (eVar 0) aNil)))) (subD 1 [3] [some x, some (.d (.list (ch.map tp))), some (.own base), some (.d (.int (1 + (n0 : Int))))]) (ch.map tp) = some (groupsN ch n0) := by
    unfold groupsN
    refine comp_by fun k hk => ?_
    exact t3_is rfl rfl rfl
  have e1 : eComp 1 [3] (iLs (eVar 1)) (sName 0) bYes (eTup (aCons (eC (.str "group")) (aCons (eVar 1) (aCons (eVar 0) aNil)))) [some x, some (.d (.list (ch.map tp))), some (.own base), some (.d (.int (1 + (n0 : Int))))] = rt (.new (groupsN ch n0)) :=
    eComp_is (iLs_is rfl) (by rw [List.length_map]; omega) c1
  rw [ext_is (xs := base) rfl e1 (by have := groupsN_len hch n0; omega)]
  rfl
theorem m_all_groups (m c : Nat) (hm : m ≤ 13) (h1 : 1 ≤ c) (h4 : c ≤ 4) : M_all_groups C [hs C m c] = rt (.new (groupsL (chA c) m)) := by
  unfold M_all_groups F_all_groups mir
  have hd : dst ["house", "choices", "found", "number"] [hs C m c] = [some (hs C m c), none, none, none] := rfl
  rw [hd]
  have s1 : fSet 1 (eCb (gCall 1 (M_colour_choices C)) (aCons (eVar 0) aNil)) [some (hs C m c), none, none, none] = rt (.nx [some (hs C m c), some (.own ((chA c).map tp)), none, none]) :=
    set_is (x := .new ((chA c).map tp)) (call_is (n := 1) (a1_is (x := hs C m c) rfl) rfl rfl (m_choices C m c h1 h4)) rfl
  have s2 : fSet 2 (eLst aNil) [some (hs C m c), some (.own ((chA c).map tp)), none, none] = rt (.nx [some (hs C m c), some (.own ((chA c).map tp)), some (.own []), none]) := rfl
  rw [sq_nx s1, sq_nx s2]
  obtain ⟨δ', e, y1, y3, hδ, _⟩ := loop_I (f := fun (k : Nat) => PyData.int (1 + (k : Int))) (i := 3) (N := m) (B := gB) (all := List.range m)
    (fun pre δ => ∃ y1 y3, δ = [some (hs C m c), some y1, some (.own (pre.flatMap (groupsN (chA c)))), y3] ∧ (y1 = .own ((chA c).map tp) ∨ y1 = .d (.list ((chA c).map tp))))
    (fun pre a δ ha hp ⟨y1, y3, hδ, hy⟩ => by
      subst hδ
      have hl := flat_len (fun a => groupsN_len (chA_len c) a) pre
      refine ⟨_, gB_turn (hs C m c) (chA c) (chA_len c) a (pre.flatMap (groupsN (chA c))) (by omega) y1 hy, _, some (.d (.int (1 + (a : Int)))), ?_, .inr rfl⟩
      rw [List.flatMap_append, show [a].flatMap (groupsN (chA c)) = groupsN (chA c) a by simp])
    (List.range m) [] [some (hs C m c), some (.own ((chA c).map tp)), some (.own []), none] (fun _ h => h) (by simp) ⟨.own ((chA c).map tp), none, by simp, .inl rfl⟩
  have fl : e2 gPlus3 (eFld C "most" (eVar 0)) (eC (.int 1)) [some (hs C m c), some (.own ((chA c).map tp)), some (.own []), none] = rt (.d (.int ((m : Int) + 1))) := (e2_is (gFld_most C m c) rfl).trans (gPlus3_int _ _)
  have s3 : fFor (iR2 (aCons (eC (.int 1)) (aCons (e2 gPlus3 (eFld C "most" (eVar 0)) (eC (.int 1))) aNil))) (sName 3) gB [some (hs C m c), some (.own ((chA c).map tp)), some (.own []), none] = rt (.nx [some (hs C m c), some y1, some (.own (groupsL (chA c) m)), y3]) := by
    unfold fFor
    rw [iR2_is (a2_is (x := .d (.int 1)) rfl fl) (by omega) (by omega) (by omega) (by omega), bd_rt, show ((m : Int) + 1 - 1).toNat = m by omega]
    unfold runI
    rw [e, hδ]
    rfl
  rw [show (fun δ => (fExt 2 (eComp 1 [3] (iLs (eVar 1)) (sName 0) bYes (eTup (aCons (eC (.str "group")) (aCons (eVar 1) (aCons (eVar 0) aNil)))))) (frz 1 δ)) = gB from rfl]
  rw [sq_nx s3, ret_is (x := .own (groupsL (chA c) m)) rfl]
  rfl
def knownL (m c : Nat) : List D := groupsL (chA c) m ++ runsL m c
theorem groupsL_len {ch : List (List Int)} (hch : ch.length ≤ 5) (m : Nat) : (groupsL ch m).length ≤ 5 * m := by
  have := flat_len (fun a => groupsN_len hch a) (List.range m)
  rwa [List.length_range] at this
theorem runsL_len (m c : Nat) (hm : m ≤ 13) : (runsL m c).length ≤ 169 * c := by
  have := flat_len (fun a => runsC_len m a hm) (List.range c)
  rwa [List.length_range] at this
theorem m_melds (m c : Nat) (hm : m ≤ 13) (h1 : 1 ≤ c) (h4 : c ≤ 4) : M_melds C [hs C m c] = rt (.new (knownL m c)) := by
  unfold M_melds F_melds mir
  have hd : dst ["house"] [hs C m c] = [some (hs C m c)] := rfl
  rw [hd]
  have e1 : eCb (gCall 1 (M_all_groups C)) (aCons (eVar 0) aNil) [some (hs C m c)] = rt (.new (groupsL (chA c) m)) := call_is (n := 1) (a1_is (x := hs C m c) rfl) rfl rfl (m_all_groups C m c hm h1 h4)
  have e2' : eCb (gCall 1 (M_all_runs C)) (aCons (eVar 0) aNil) [some (hs C m c)] = rt (.new (runsL m c)) := call_is (n := 1) (a1_is (x := hs C m c) rfl) rfl rfl (m_all_runs C m c hm h4)
  have l1 := groupsL_len (chA_len c) m
  have l2 := runsL_len m c hm
  rw [ret_is ((e2_is e1 e2').trans (cat3_is rfl rfl rfl (by omega)))]
  rfl
end
end LW
set_option Elab.async false
set_option linter.all false
set_option maxRecDepth 100000
set_option maxHeartbeats 1000000
set_option autoImplicit false
namespace LW
open PySem PySem.Spec L2 L3
theorem eqv_tp (k k' : List Int) : PyData.eqv (tp k) (tp k') = decide (k = k') := by
  unfold tp PyData.eqv
  exact eqv_ints k k'
theorem eqv_i (a b : Int) : PyData.eqv (.int a) (.int b) = decide (a = b) := by
  unfold PyData.eqv
  by_cases h : a = b
  · subst h; simp
  · simp [h]
theorem eqv_rn (c f n c' f' n' : Int) : PyData.eqv (rn c f n) (rn c' f' n') = (decide (c = c') && (decide (f = f') && decide (n = n'))) := by
  unfold rn
  simp only [PyData.eqv, PyData.eqvAll]
  have : (("run" : Str) == ("run" : Str)) = true := by decide +kernel
  rw [this]
  simp [eqv_i, PyData.eqv]
  rfl
theorem eqv_gp (n n' : Int) (k k' : List Int) : PyData.eqv (gp n k) (gp n' k') = (decide (n = n') && decide (k = k')) := by
  unfold gp
  simp only [PyData.eqv, PyData.eqvAll]
  have : (("group" : Str) == ("group" : Str)) = true := by decide +kernel
  rw [this, eqv_tp]
  simp
  rfl
theorem eqv_rn_gp (c f n n' : Int) (k' : List Int) : PyData.eqv (rn c f n) (gp n' k') = false := by
  unfold gp rn
  simp only [PyData.eqv, PyData.eqvAll]
  have : (("run" : Str) == ("group" : Str)) = false := by decide +kernel
  rw [this]; rfl
theorem eqv_gp_rn (c f n n' : Int) (k' : List Int) : PyData.eqv (gp n' k') (rn c f n) = false := by
  unfold gp rn
  simp only [PyData.eqv, PyData.eqvAll]
  have : (("group" : Str) == ("run" : Str)) = false := by decide +kernel
  rw [this]; rfl
theorem cL_i (a b : Int) (xs ys : List D) : cL true (.int a :: xs) (.int b :: ys) = if a = b then cL true xs ys else some (decide (a < b)) := by
  rw [cL, eqv_i]
  by_cases h : a = b
  · rw [if_pos h, if_pos (decide_eq_true h)]
  · rw [if_neg h, if_neg (by simpa using h)]
    rfl
theorem cL_s_eq (xs ys : List D) (t : Str) (h : PyData.eqv (.str t) (.str t) = true) : cL true (.str t :: xs) (.str t :: ys) = cL true xs ys := by
  rw [cL, if_pos h]
theorem cD_rr (c f n c' f' n' : Int) : cD true (rn c f n) (rn c' f' n') = some (ll [c, f, n] [c', f', n']) := by
  unfold rn cD
  rw [cL_s_eq _ _ _ eqv_rr]
  exact cL_ints [c, f, n] [c', f', n']
theorem cD_gg (n n' : Int) (k k' : List Int) : cD true (gp n k) (gp n' k') = some (ll (n :: k) (n' :: k')) := by
  unfold gp cD
  rw [cL_s_eq _ _ _ eqv_gg, cL_i, ll_cons]
  by_cases h : n = n'
  · rw [if_pos h, if_pos h, cL, eqv_tp]
    by_cases hk : k = k'
    · subst hk
      rw [if_pos (by simp), ll_irr]; rfl
    · rw [if_neg (by simpa using hk)]
      exact cL_ints k k'
  · rw [if_neg h, if_neg h]
theorem cD_gr (c f n n' : Int) (k' : List Int) : cD true (gp n' k') (rn c f n) = some true := by
  unfold gp rn cD
  rw [cL, if_neg (by rw [eqv_gr]; exact Bool.false_ne_true)]
  show some (cS true "group" "run") = some true
  congr 1
theorem cD_rg (c f n n' : Int) (k' : List Int) : cD true (rn c f n) (gp n' k') = some false := by
  unfold gp rn cD
  rw [cL, if_neg (by rw [eqv_rg]; exact Bool.false_ne_true)]
  show some (cS true "run" "group") = some false
  congr 1
theorem ok_ints : ∀ k : List Int, okL (k.map PyData.int) = true
  | [] => rfl
  | x :: r => by rw [List.map_cons, okL, ok_ints r]; rfl
theorem ok_rn (c f n : Int) : okD (rn c f n) = true := rfl
theorem ok_gp (n : Int) (k : List Int) : okD (gp n k) = true := by
  unfold gp tp
  simp [okD, okL, ok_ints]
theorem dp_ints : ∀ k : List Int, PyData.depthAll (k.map PyData.int) ≤ 1
  | [] => Nat.zero_le _
  | x :: r => by
    have := dp_ints r
    rw [List.map_cons, PyData.depthAll]
    show max _ _ ≤ 1
    have : (PyData.int x).depth ≤ 1 := by unfold PyData.depth; omega
    omega
theorem dp_rn (c f n : Int) : (rn c f n).depth ≤ 50 := by
  unfold rn
  simp [PyData.depth, PyData.depthAll]
theorem dp_gp (n : Int) (k : List Int) : (gp n k).depth ≤ 50 := by
  have := dp_ints k
  unfold gp tp
  simp [PyData.depth, PyData.depthAll]
  omega
def IsM (x : D) : Prop := (∃ c f n, x = rn c f n) ∨ (∃ n k, x = gp n k)
theorem mem_runs {m c : Nat} {x : D} (h : x ∈ runsL m c) : ∃ col f0 s : Nat, col < c ∧ f0 < m ∧ s < m - 2 - f0 ∧ x = rn (col : Int) (1 + (f0 : Int)) (3 + (s : Int)) := by
  unfold runsL runsC runsF at h
  simp only [List.mem_flatMap, List.mem_map, List.mem_range] at h
  obtain ⟨col, h1, f0, h2, s, h3, rfl⟩ := h
  exact ⟨col, f0, s, h1, h2, h3, rfl⟩
theorem runs_mem {m c col f0 s : Nat} (h1 : col < c) (h2 : f0 < m) (h3 : s < m - 2 - f0) : rn (col : Int) (1 + (f0 : Int)) (3 + (s : Int)) ∈ runsL m c := by
  unfold runsL runsC runsF
  simp only [List.mem_flatMap, List.mem_map, List.mem_range]
  exact ⟨col, h1, f0, h2, s, h3, rfl⟩
theorem mem_groups {ch : List (List Int)} {m : Nat} {x : D} (h : x ∈ groupsL ch m) : ∃ n0 : Nat, ∃ k ∈ ch, n0 < m ∧ x = gp (1 + (n0 : Int)) k := by
  unfold groupsL groupsN at h
  simp only [List.mem_flatMap, List.mem_map, List.mem_range] at h
  obtain ⟨n0, h1, k, hk, rfl⟩ := h
  exact ⟨n0, k, hk, h1, rfl⟩
theorem groups_mem {ch : List (List Int)} {m n0 : Nat} {k : List Int} (h1 : n0 < m) (hk : k ∈ ch) : gp (1 + (n0 : Int)) k ∈ groupsL ch m := by
  unfold groupsL groupsN
  simp only [List.mem_flatMap, List.mem_map, List.mem_range]
  exact ⟨n0, h1, k, hk, rfl⟩
theorem isM_known {m c : Nat} {x : D} (h : x ∈ knownL m c) : IsM x := by
  rcases List.mem_append.mp h with h | h
  · obtain ⟨n0, k, _, _, e⟩ := mem_groups h; exact .inr ⟨_, _, e⟩
  · obtain ⟨col, f0, s, _, _, _, e⟩ := mem_runs h; exact .inl ⟨_, _, _, e⟩
theorem IsM.cmp {x y : D} (hx : IsM x) (hy : IsM y) : (cD true x y).isSome = true := by
  rcases hx with ⟨c, f, n, rfl⟩ | ⟨n, k, rfl⟩ <;> rcases hy with ⟨c', f', n', rfl⟩ | ⟨n', k', rfl⟩
  · rw [cD_rr]; rfl
  · rw [cD_rg]; rfl
  · rw [cD_gr]; rfl
  · rw [cD_gg]; rfl
theorem IsM.ok {x : D} (hx : IsM x) : okD x = true := by
  rcases hx with ⟨c, f, n, rfl⟩ | ⟨n, k, rfl⟩
  · exact ok_rn ..
  · exact ok_gp ..
theorem cmp2_melds {xs : List D} (h : ∀ x ∈ xs, IsM x) (hl : xs.length ≤ 10000) : Cmp2 xs :=
  ⟨fun x hx => (h x hx).ok, fun x hx y hy => (h x hx).cmp (h y hy), .inr fun x hx => by
    rcases h x hx with ⟨c, f, n, rfl⟩ | ⟨n, k, rfl⟩
    · exact ⟨_, _, rfl⟩
    · exact ⟨_, _, rfl⟩, fun x hx => by
    rcases h x hx with ⟨c, f, n, rfl⟩ | ⟨n, k, rfl⟩
    · exact dp_rn ..
    · exact dp_gp .., hl⟩
theorem ordE_of {x y : D} (hx : IsM x) (hy : IsM y) (h : cD true y x = some false) : ll (enc y) (enc x) = false := enc_lt hy.ok hx.ok h
theorem ch_ord (c : Nat) : (chA c).Pairwise fun a b => ll b a = false := by
  match c with
  | 0 | 1 | 2 | 3 | 4 => decide
  | n + 5 => exact List.Pairwise.nil
theorem known_ord (m c : Nat) : OrdE (knownL m c) := by
  unfold OrdE knownL
  refine List.pairwise_append.mpr ⟨?_, ?_, fun x hx y hy => ?_⟩
  · unfold groupsL
    refine List.pairwise_flatMap.mpr ⟨fun n0 _ => ?_, ?_⟩
    · unfold groupsN
      refine List.pairwise_map.mpr ((ch_ord c).imp fun {a b} hab => ?_)
      refine ordE_of (.inr ⟨_, _, rfl⟩) (.inr ⟨_, _, rfl⟩) ?_
      rw [cD_gg, ll_cons, if_pos rfl, hab]
    · refine List.pairwise_lt_range.imp fun {a b} hab x hx y hy => ?_
      unfold groupsN at hx hy
      obtain ⟨k, _, rfl⟩ := List.mem_map.mp hx
      obtain ⟨k', _, rfl⟩ := List.mem_map.mp hy
      refine ordE_of (.inr ⟨_, _, rfl⟩) (.inr ⟨_, _, rfl⟩) ?_
      rw [cD_gg, ll_cons, if_neg (by omega), decide_eq_false (by omega)]
  · unfold runsL
    refine List.pairwise_flatMap.mpr ⟨fun col _ => ?_, ?_⟩
    · unfold runsC
      refine List.pairwise_flatMap.mpr ⟨fun f0 _ => ?_, ?_⟩
      · unfold runsF
        refine List.pairwise_map.mpr (List.pairwise_lt_range.imp fun {a b} hab => ?_)
        refine ordE_of (.inl ⟨_, _, _, rfl⟩) (.inl ⟨_, _, _, rfl⟩) ?_
        rw [cD_rr, ll_cons, if_pos rfl, ll_cons, if_pos rfl, ll_cons, if_neg (by omega), decide_eq_false (by omega)]
      · refine List.pairwise_lt_range.imp fun {a b} hab x hx y hy => ?_
        unfold runsF at hx hy
        obtain ⟨k, _, rfl⟩ := List.mem_map.mp hx
        obtain ⟨k', _, rfl⟩ := List.mem_map.mp hy
        refine ordE_of (.inl ⟨_, _, _, rfl⟩) (.inl ⟨_, _, _, rfl⟩) ?_
        rw [cD_rr, ll_cons, if_pos rfl, ll_cons, if_neg (by omega), decide_eq_false (by omega)]
    · refine List.pairwise_lt_range.imp fun {a b} hab x hx y hy => ?_
      unfold runsC runsF at hx hy
      simp only [List.mem_flatMap, List.mem_map, List.mem_range] at hx hy
      obtain ⟨_, _, _, _, rfl⟩ := hx
      obtain ⟨_, _, _, _, rfl⟩ := hy
      refine ordE_of (.inl ⟨_, _, _, rfl⟩) (.inl ⟨_, _, _, rfl⟩) ?_
      rw [cD_rr, ll_cons, if_neg (by omega), decide_eq_false (by omega)]
  · obtain ⟨_, _, _, _, rfl⟩ := mem_groups hx
    obtain ⟨_, _, _, _, _, _, rfl⟩ := mem_runs hy
    exact ordE_of (.inr ⟨_, _, rfl⟩) (.inl ⟨_, _, _, rfl⟩) (cD_rg ..)
theorem srtD_known {m c : Nat} {raw : List D} (h : raw.Perm (knownL m c)) : srtD raw = knownL m c :=
  ordE_one ((srtD_perm raw).trans h) (srtD_ord raw) (known_ord m c) (fun x hx => (isM_known (h.mem_iff.mp ((srtD_perm raw).mem_iff.mp hx))).ok)
    fun x hx y hy => (isM_known (h.mem_iff.mp ((srtD_perm raw).mem_iff.mp hx))).cmp (isM_known (h.mem_iff.mp ((srtD_perm raw).mem_iff.mp hy)))
theorem any_known_rn (m c : Nat) (col f n : Int) : ((knownL m c).any fun z => PyData.eqv z (rn col f n)) = runOk m c col f n := by
  apply Bool.eq_iff_iff.mpr
  rw [List.any_eq_true]
  constructor
  · rintro ⟨x, hx, he⟩
    rcases List.mem_append.mp hx with h | h
    · obtain ⟨n0, k, _, _, rfl⟩ := mem_groups h
      rw [eqv_gp_rn] at he; cases he
    · obtain ⟨col', f0, s, h1, h2, h3, rfl⟩ := mem_runs h
      rw [eqv_rn] at he
      simp only [Bool.and_eq_true, decide_eq_true_eq] at he
      obtain ⟨rfl, rfl, rfl⟩ := he
      unfold runOk tileOk
      simp only [Bool.and_eq_true, decide_eq_true_eq]
      omega
  · intro h
    unfold runOk tileOk at h
    simp only [Bool.and_eq_true, decide_eq_true_eq] at h
    refine ⟨rn ((col.toNat : Nat) : Int) (1 + (((f - 1).toNat : Nat) : Int)) (3 + (((n - 3).toNat : Nat) : Int)), List.mem_append_right _ (runs_mem (by omega) (by omega) (by omega)), ?_⟩
    rw [eqv_rn]
    simp only [Bool.and_eq_true, decide_eq_true_eq]
    omega
theorem any_known_gp (m c : Nat) (n : Int) (k : List Int) : ((knownL m c).any fun z => PyData.eqv z (gp n k)) = (decide (1 ≤ n) && decide (n ≤ (m : Int)) && decide (k ∈ chA c)) := by
  apply Bool.eq_iff_iff.mpr
  rw [List.any_eq_true]
  constructor
  · rintro ⟨x, hx, he⟩
    rcases List.mem_append.mp hx with h | h
    · obtain ⟨n0, k', hk, h1, rfl⟩ := mem_groups h
      rw [eqv_gp] at he
      simp only [Bool.and_eq_true, decide_eq_true_eq] at he ⊢
      obtain ⟨rfl, rfl⟩ := he
      exact ⟨by omega, hk⟩
    · obtain ⟨col', f0, s, h1, h2, h3, rfl⟩ := mem_runs h
      rw [eqv_rn_gp] at he; cases he
  · intro h
    simp only [Bool.and_eq_true, decide_eq_true_eq] at h
    refine ⟨gp (1 + (((n - 1).toNat : Nat) : Int)) k, List.mem_append_left _ (groups_mem (by omega) h.2), ?_⟩
    rw [eqv_gp]
    simp only [Bool.and_eq_true, decide_eq_true_eq]
    exact ⟨by omega, trivial⟩
def colOk (c : Nat) (k : List Int) : Bool := decide (3 ≤ k.length) && k.all (fun x => decide (0 ≤ x) && decide (x < (c : Int))) && asc k
theorem grp_col (m c : Nat) (n : Int) (k : List Int) (h : colOk c k = decide (k ∈ chA c)) : grpOk m c n k = (decide (1 ≤ n) && decide (n ≤ (m : Int)) && decide (k ∈ chA c)) := by
  rw [← h]
  unfold grpOk colOk tileOk
  match k with
  | [] => simp
  | x :: r =>
    by_cases hn : (decide (1 ≤ n) && decide (n ≤ (m : Int))) = true
    · simp only [hn, Bool.true_and]
    · have hn' : (decide (1 ≤ n) && decide (n ≤ (m : Int))) = false := by simpa using hn
      simp only [hn', Bool.false_and, List.all_cons, Bool.and_false]
end LW
set_option Elab.async false
set_option linter.all false
set_option maxRecDepth 100000
set_option maxHeartbeats 1000000
set_option autoImplicit false
namespace LW
open PySem PySem.Spec L2 L3
def lF : DS → M Out := (fSet 2 (e2 gPlus3 (eVar 2) (eComp 1 [3, 4] (iR2 (aCons (e2 gPlus3 (eVar 4) (eC (.int 2))) (aCons (e2 gPlus3 (eVar 0) (eC (.int 1))) aNil))) (sName 0) bYes (eTup (aCons (eC (.str "run")) (aCons (eVar 1) (aCons (eVar 2) (aCons (e2 gPlus3 (e2 gSub (eVar 0) (eVar 2)) (eC (.int 1))) aNil))))))))
def lC : DS → M Out := (fFor (iR2 (aCons (eC (.int 1)) (aCons (e2 gPlus3 (eVar 0) (eC (.int 1))) aNil))) (sName 4) lF)
def lK : DS → M Out := (fun δ => (fSet 5 (e2 gPlus3 (eVar 5) (eComp 1 [3] (iLs (eVar 5)) (sName 0) bYes (e2 gPlus3 (eVar 0) (eLst (aCons (eVar 1) aNil)))))) (frz 5 δ))
def lG : DS → M Out := (fun δ => (fSet 2 (e2 gPlus3 (eVar 2) (eComp 1 [6] (iLs (eVar 5)) (sName 0) (fun δ => bd (e2 gGt (eCb gLen (aCons (eVar 0) aNil)) (eC (.int 2)) δ) tru) (eTup (aCons (eC (.str "group")) (aCons (eVar 1) (aCons (eCb gTupC (aCons (eVar 0) aNil)) aNil))))))) (frz 5 δ))
def kindsL : Nat → List (List Int)
  | 0 => [[]]
  | c + 1 => kindsL c ++ (kindsL c).map fun k => k ++ [(c : Int)]
def ls (k : List Int) : D := .list (k.map PyData.int)
def chB (c : Nat) : List (List Int) := (kindsL c).filter fun k => decide (2 < k.length)
section
variable (m c : Nat)
theorem lF_turn (hm : m ≤ 13) (x1 : Option DV) (col f0 : Nat) (hf : f0 < m) (base : List D) (hb : base.length ≤ 1000) (x5 x6 : Option DV) :
    lF [some (.d (.int (m : Int))), x1, some (.own base), some (.d (.int (col : Int))), some (.d (.int (1 + (f0 : Int)))), x5, x6] = rt (.nx [some (.d (.int (m : Int))), x1, some (.own (base ++ runsF m col f0)), some (.d (.int (col : Int))), some (.d (.int (1 + (f0 : Int)))), x5, x6]) := by
  have c1 : compD (sName 0) bYes (eTup (aCons (eC (.str "run")) (aCons (eVar 1) (aCons (eVar 2) (aCons (e2 gPlus3 (e2 gSub (eVar 0) (eVar 2)) (eC (.int 1))) aNil))))) (subD 1 [3, 4] [some (.d (.int (m : Int))), x1, some (.own base), some (.d (.int (col : Int))), some (.d (.int (1 + (f0 : Int)))), x5, x6]) (runI (1 + (f0 : Int) + 2) ((m : Int) + 1 - (1 + (f0 : Int) + 2)).toNat) = some (runsF m col f0) := by
    rw [show ((m : Int) + 1 - (1 + (f0 : Int) + 2)).toNat = m - 2 - f0 by omega]
    unfold runI runsF
    refine comp_by fun s hs => ?_
    have q : e2 gPlus3 (e2 gSub (eVar 0) (eVar 2)) (eC (.int 1)) ((subD 1 [3, 4] [some (.d (.int (m : Int))), x1, some (.own base), some (.d (.int (col : Int))), some (.d (.int (1 + (f0 : Int)))), x5, x6]).set 0 (some (.d (.int (1 + (f0 : Int) + 2 + (s : Int)))))) = rt (.d (.int (3 + (s : Int)))) := by
      refine (e2_is ((e2_is (x := .d (.int (1 + (f0 : Int) + 2 + (s : Int)))) (y := .d (.int (1 + (f0 : Int)))) rfl rfl).trans (gSub_int _ _)) rfl).trans ((gPlus3_int _ _).trans ?_)
      rw [show (1 + (f0 : Int) + 2 + (s : Int) - (1 + (f0 : Int)) + 1) = 3 + (s : Int) by omega]
    exact t4_is rfl rfl rfl q
  have e1 : eComp 1 [3, 4] (iR2 (aCons (e2 gPlus3 (eVar 4) (eC (.int 2))) (aCons (e2 gPlus3 (eVar 0) (eC (.int 1))) aNil))) (sName 0) bYes (eTup (aCons (eC (.str "run")) (aCons (eVar 1) (aCons (eVar 2) (aCons (e2 gPlus3 (e2 gSub (eVar 0) (eVar 2)) (eC (.int 1))) aNil))))) [some (.d (.int (m : Int))), x1, some (.own base), some (.d (.int (col : Int))), some (.d (.int (1 + (f0 : Int)))), x5, x6] = rt (.new (runsF m col f0)) :=
    eComp_is (iR2_is (a2_is ((e2_is (x := .d (.int (1 + (f0 : Int)))) (y := .d (.int 2)) rfl rfl).trans (gPlus3_int _ _)) ((e2_is (x := .d (.int (m : Int))) (y := .d (.int 1)) rfl rfl).trans (gPlus3_int _ _))) (by omega) (by omega) (by omega) (by omega)) (by rw [runI_len]; omega) c1
  unfold lF
  rw [set_is ((e2_is (x := .own base) rfl e1).trans (cat3_is rfl rfl rfl (by have := runsF_len m col f0 hm; omega))) rfl]
  rfl
theorem lC_turn (hm : m ≤ 13) (x1 : Option DV) (col : Nat) (base : List D) (hb : base.length ≤ 700) (x4 x5 x6 : Option DV) :
    ∃ y4, lC [some (.d (.int (m : Int))), x1, some (.own base), some (.d (.int (col : Int))), x4, x5, x6] = rt (.nx [some (.d (.int (m : Int))), x1, some (.own (base ++ runsC m col)), some (.d (.int (col : Int))), y4, x5, x6]) := by
  unfold lC fFor
  rw [iR2_is (a2_is (x := .d (.int 1)) rfl ((e2_is (x := .d (.int (m : Int))) (y := .d (.int 1)) rfl rfl).trans (gPlus3_int _ _))) (by omega) (by omega) (by omega) (by omega), bd_rt, show ((m : Int) + 1 - 1).toNat = m by omega]
  unfold runI
  obtain ⟨δ', e, y4, hδ⟩ := loop_I (f := fun (k : Nat) => PyData.int (1 + (k : Int))) (i := 4) (N := m) (B := lF) (all := List.range m)
    (fun pre δ => ∃ y4, δ = [some (.d (.int (m : Int))), x1, some (.own (base ++ pre.flatMap (runsF m col))), some (.d (.int (col : Int))), y4, x5, x6])
    (fun pre a δ ha hp ⟨y4, hδ⟩ => by
      subst hδ
      have hl := flat_len (fun a => runsF_len m col a hm) pre
      refine ⟨_, lF_turn m hm x1 col a (List.mem_range.mp ha) (base ++ pre.flatMap (runsF m col)) (by rw [List.length_append]; omega) x5 x6, some (.d (.int (1 + (a : Int)))), ?_⟩
      rw [List.flatMap_append, ← List.append_assoc, show [a].flatMap (runsF m col) = runsF m col a by simp])
    (List.range m) [] [some (.d (.int (m : Int))), x1, some (.own base), some (.d (.int (col : Int))), x4, x5, x6] (fun _ h => h) (by simp) ⟨x4, by simp⟩
  refine ⟨y4, ?_⟩
  rw [e, hδ]
  rfl
theorem kinds_loop (x0 x1 x2 x3 x4 x6 : Option DV) (h1 : 1 ≤ c) (h4 : c ≤ 4) : ∃ y3, loopD (sName 3) lK (runI 0 c) [x0, x1, x2, x3, x4, some (.own [.list []]), x6] = rt (.nx [x0, x1, x2, y3, x4, some (.own ((kindsL c).map ls)), x6]) := by
  match c, h1, h4 with
  | 1, _, _ => exact ⟨some (.d (.int 0)), by kernel_rfl⟩
  | 2, _, _ => exact ⟨some (.d (.int 1)), by kernel_rfl⟩
  | 3, _, _ => exact ⟨some (.d (.int 2)), by kernel_rfl⟩
  | 4, _, _ => exact ⟨some (.d (.int 3)), by kernel_rfl⟩
  | n + 5, _, h => omega
theorem gLen_ls (k : List Int) : gLen [.d (ls k)] = rt (.d (.int (k.length : Int))) := by
  show rt (DV.d (.int ((k.map PyData.int).length : Int))) = _
  rw [List.length_map]
theorem lG_turn (ks : List (List Int)) (hk : ks.length ≤ 100) (x0 x1 x3 x4 : Option DV) (n0 : Nat) (base : List D) (hb : base.length ≤ 1000) (x5 : DV) (h5 : x5 = .own (ks.map ls) ∨ x5 = .d (.list (ks.map ls))) :
    lG [x0, x1, some (.own base), x3, x4, some x5, some (.d (.int (1 + (n0 : Int))))] = rt (.nx [x0, x1, some (.own (base ++ groupsN (ks.filter fun k => decide (2 < k.length)) n0)), x3, x4, some (.d (.list (ks.map ls))), some (.d (.int (1 + (n0 : Int))))]) := by
  have hf : frz 5 [x0, x1, some (.own base), x3, x4, some x5, some (.d (.int (1 + (n0 : Int))))] = [x0, x1, some (.own base), x3, x4, some (.d (.list (ks.map ls))), some (.d (.int (1 + (n0 : Int))))] := by
    rcases h5 with h | h <;> (subst h; rfl)
  unfold lG
  rw [hf]
  have c1 : compD (sName 0) (fun δ => bd (e2 gGt (eCb gLen (aCons (eVar 0) aNil)) (eC (.int 2)) δ) tru) (eTup (aCons (eC (.str "group")) (aCons (eVar 1) (aCons (eCb gTupC (aCons (eVar 0) aNil)) aNil)))) (subD 1 [6] [x0, x1, some (.own base), x3, x4, some (.d (.list (ks.map ls))), some (.d (.int (1 + (n0 : Int))))]) (ks.map ls) = some (groupsN (ks.filter fun k => decide (2 < k.length)) n0) := by
    unfold groupsN
    refine comp_filby fun k hk => ⟨?_, ?_⟩
    · refine (tst_is ((e2_is (y := .d (.int 2)) ((cb_is (a1_is (x := .d (ls k)) rfl)).trans (gLen_ls k)) rfl).trans (gGt_int _ _))).trans ?_
      rw [show decide ((2 : Int) < (k.length : Int)) = decide (2 < k.length) from decide_eq_decide.mpr (by omega)]
    · exact t3_is rfl rfl ((cb_is (a1_is (x := .d (ls k)) rfl)).trans rfl)
  have e1 : eComp 1 [6] (iLs (eVar 5)) (sName 0) (fun δ => bd (e2 gGt (eCb gLen (aCons (eVar 0) aNil)) (eC (.int 2)) δ) tru) (eTup (aCons (eC (.str "group")) (aCons (eVar 1) (aCons (eCb gTupC (aCons (eVar 0) aNil)) aNil)))) [x0, x1, some (.own base), x3, x4, some (.d (.list (ks.map ls))), some (.d (.int (1 + (n0 : Int))))] = rt (.new (groupsN (ks.filter fun k => decide (2 < k.length)) n0)) :=
    eComp_is (iLs_is rfl) (by rw [List.length_map]; omega) c1
  have hl : (groupsN (ks.filter fun k => decide (2 < k.length)) n0).length ≤ 100 := by
    unfold groupsN
    rw [List.length_map]
    exact Nat.le_trans (List.length_filter_le _ _) hk
  rw [set_is ((e2_is (x := .own base) rfl e1).trans (cat3_is rfl rfl rfl (by omega))) rfl]
  rfl
theorem kinds_len (h4 : c ≤ 4) : (kindsL c).length ≤ 100 := by
  match c, h4 with
  | 0, _ | 1, _ | 2, _ | 3, _ | 4, _ => decide
  | n + 5, h => omega
theorem chB_len (h4 : c ≤ 4) : (chB c).length ≤ 5 := by
  match c, h4 with
  | 0, _ | 1, _ | 2, _ | 3, _ | 4, _ => decide
  | n + 5, h => omega
theorem chB_perm (h4 : c ≤ 4) : (chB c).Perm (chA c) := by
  match c, h4 with
  | 0, _ | 1, _ | 2, _ | 3, _ | 4, _ => decide
  | n + 5, h => omega
theorem flat_perm {α : Type} {f g : α → List D} (h : ∀ a, (f a).Perm (g a)) : ∀ as : List α, (as.flatMap f).Perm (as.flatMap g)
  | [] => .refl _
  | a :: as => by
    rw [List.flatMap_cons, List.flatMap_cons]
    exact (h a).append (flat_perm h as)
theorem raw_perm (h4 : c ≤ 4) : (runsL m c ++ groupsL (chB c) m).Perm (knownL m c) := by
  refine List.perm_append_comm.trans ?_
  unfold knownL
  refine List.Perm.append_right _ ?_
  unfold groupsL
  refine flat_perm (fun n0 => ?_) _
  unfold groupsN
  exact (chB_perm c h4).map _
theorem m_law_melds (hm : m ≤ 13) (h1 : 1 ≤ c) (h4 : c ≤ 4) : M__law_melds [.d (.int (m : Int)), .d (.int (c : Int))] = rt (.new (knownL m c)) := by
  unfold M__law_melds F__law_melds mir
  have hd : dst ["most", "colours", "found", "colour", "first", "kinds", "number"] [.d (.int (m : Int)), .d (.int (c : Int))] = [some (.d (.int (m : Int))), some (.d (.int (c : Int))), none, none, none, none, none] := rfl
  rw [hd]
  have s1 : fSet 2 (eLst aNil) [some (.d (.int (m : Int))), some (.d (.int (c : Int))), none, none, none, none, none] = rt (.nx [some (.d (.int (m : Int))), some (.d (.int (c : Int))), some (.own []), none, none, none, none]) := rfl
  rw [sq_nx s1]
  obtain ⟨δ', e, y3, y4, hδ⟩ := loop_I (f := fun (k : Nat) => PyData.int (k : Int)) (i := 3) (N := c) (B := lC) (all := List.range c)
    (fun pre δ => ∃ y3 y4, δ = [some (.d (.int (m : Int))), some (.d (.int (c : Int))), some (.own (pre.flatMap (runsC m))), y3, y4, none, none])
    (fun pre a δ ha hp ⟨y3, y4, hδ⟩ => by
      subst hδ
      have hl := flat_len (fun a => runsC_len m a hm) pre
      obtain ⟨z4, e⟩ := lC_turn m hm (some (.d (.int (c : Int)))) a (pre.flatMap (runsC m)) (by omega) y4 none none
      refine ⟨_, e, some (.d (.int (a : Int))), z4, ?_⟩
      rw [List.flatMap_append, show [a].flatMap (runsC m) = runsC m a by simp])
    (List.range c) [] [some (.d (.int (m : Int))), some (.d (.int (c : Int))), some (.own []), none, none, none, none] (fun _ h => h) (by simp) ⟨none, none, by simp⟩
  have s2 : fFor (iR1 (aCons (eVar 1) aNil)) (sName 3) lC [some (.d (.int (m : Int))), some (.d (.int (c : Int))), some (.own []), none, none, none, none] = rt (.nx [some (.d (.int (m : Int))), some (.d (.int (c : Int))), some (.own (runsL m c)), y3, y4, none, none]) := by
    unfold fFor
    rw [iR1_is (a1_is (x := .d (.int (c : Int))) rfl) (by omega) (by omega), bd_rt, show (c : Int).toNat = c by omega, runI_zero, e, hδ]
    rfl
  rw [show (fFor (iR2 (aCons (eC (.int 1)) (aCons (e2 gPlus3 (eVar 0) (eC (.int 1))) aNil))) (sName 4) (fSet 2 (e2 gPlus3 (eVar 2) (eComp 1 [3, 4] (iR2 (aCons (e2 gPlus3 (eVar 4) (eC (.int 2))) (aCons (e2 gPlus3 (eVar 0) (eC (.int 1))) aNil))) (sName 0) bYes (eTup (aCons (eC (.str "run")) (aCons (eVar 1) (aCons (eVar 2) (aCons (e2 gPlus3 (e2 gSub (eVar 0) (eVar 2)) (eC (.int 1))) aNil))))))))) = lC from rfl]
  rw [sq_nx s2]
  have s3 : fSet 5 (eLst (aCons (eLst aNil) aNil)) [some (.d (.int (m : Int))), some (.d (.int (c : Int))), some (.own (runsL m c)), y3, y4, none, none] = rt (.nx [some (.d (.int (m : Int))), some (.d (.int (c : Int))), some (.own (runsL m c)), y3, y4, some (.own [.list []]), none]) := rfl
  rw [sq_nx s3]
  obtain ⟨z3, ek⟩ := kinds_loop c (some (.d (.int (m : Int)))) (some (.d (.int (c : Int)))) (some (.own (runsL m c))) y3 y4 none h1 h4
  have s4 : fFor (iR1 (aCons (eVar 1) aNil)) (sName 3) lK [some (.d (.int (m : Int))), some (.d (.int (c : Int))), some (.own (runsL m c)), y3, y4, some (.own [.list []]), none] = rt (.nx [some (.d (.int (m : Int))), some (.d (.int (c : Int))), some (.own (runsL m c)), z3, y4, some (.own ((kindsL c).map ls)), none]) := by
    unfold fFor
    rw [iR1_is (a1_is (x := .d (.int (c : Int))) rfl) (by omega) (by omega), bd_rt, show (c : Int).toNat = c by omega, ek]
  rw [show (fun δ => (fSet 5 (e2 gPlus3 (eVar 5) (eComp 1 [3] (iLs (eVar 5)) (sName 0) bYes (e2 gPlus3 (eVar 0) (eLst (aCons (eVar 1) aNil)))))) (frz 5 δ)) = lK from rfl]
  rw [sq_nx s4]
  have lr := runsL_len m c hm
  obtain ⟨δ2, eg, w5, w6, hδ2, _⟩ := loop_I (f := fun (k : Nat) => PyData.int (1 + (k : Int))) (i := 6) (N := m) (B := lG) (all := List.range m)
    (fun pre δ => ∃ w5 w6, δ = [some (.d (.int (m : Int))), some (.d (.int (c : Int))), some (.own (runsL m c ++ pre.flatMap (groupsN (chB c)))), z3, y4, some w5, w6] ∧ (w5 = .own ((kindsL c).map ls) ∨ w5 = .d (.list ((kindsL c).map ls))))
    (fun pre a δ ha hp ⟨w5, w6, hδ, hw⟩ => by
      subst hδ
      have hl := flat_len (fun a => groupsN_len (chB_len c h4) a) pre
      refine ⟨_, lG_turn (kindsL c) (kinds_len c h4) _ _ _ _ a (runsL m c ++ pre.flatMap (groupsN (chB c))) (by rw [List.length_append]; omega) w5 hw, _, some (.d (.int (1 + (a : Int)))), ?_, .inr rfl⟩
      rw [List.flatMap_append, show [a].flatMap (groupsN (chB c)) = groupsN (chB c) a by simp, ← List.append_assoc]
      rfl)
    (List.range m) [] [some (.d (.int (m : Int))), some (.d (.int (c : Int))), some (.own (runsL m c)), z3, y4, some (.own ((kindsL c).map ls)), none] (fun _ h => h) (by simp) ⟨.own ((kindsL c).map ls), none, by simp, .inl rfl⟩
  have s5 : fFor (iR2 (aCons (eC (.int 1)) (aCons (e2 gPlus3 (eVar 0) (eC (.int 1))) aNil))) (sName 6) lG [some (.d (.int (m : Int))), some (.d (.int (c : Int))), some (.own (runsL m c)), z3, y4, some (.own ((kindsL c).map ls)), none] = rt (.nx [some (.d (.int (m : Int))), some (.d (.int (c : Int))), some (.own (runsL m c ++ groupsL (chB c) m)), z3, y4, some w5, w6]) := by
    unfold fFor
    rw [iR2_is (a2_is (x := .d (.int 1)) rfl ((e2_is (x := .d (.int (m : Int))) (y := .d (.int 1)) rfl rfl).trans (gPlus3_int _ _))) (by omega) (by omega) (by omega) (by omega), bd_rt, show ((m : Int) + 1 - 1).toNat = m by omega]
    unfold runI
    rw [eg, hδ2]
    rfl
  rw [show (fun δ => (fSet 2 (e2 gPlus3 (eVar 2) (eComp 1 [6] (iLs (eVar 5)) (sName 0) (fun δ => bd (e2 gGt (eCb gLen (aCons (eVar 0) aNil)) (eC (.int 2)) δ) tru) (eTup (aCons (eC (.str "group")) (aCons (eVar 1) (aCons (eCb gTupC (aCons (eVar 0) aNil)) aNil))))))) (frz 5 δ)) = lG from rfl]
  rw [sq_nx s5]
  have hp := raw_perm m c h4
  have lg := groupsL_len (chB_len c h4) m
  have e9 : eCb gSrtA (aCons (eVar 2) aNil) [some (.d (.int (m : Int))), some (.d (.int (c : Int))), some (.own (runsL m c ++ groupsL (chB c) m)), z3, y4, some w5, w6] = rt (.new (knownL m c)) := by
    refine (cb_is (a1_is (x := .own (runsL m c ++ groupsL (chB c) m)) rfl)).trans ?_
    unfold gSrtA
    simp only
    rw [asL_own, op_some, bd_rt, if_pos (cmp2_melds (fun x hx => isM_known (hp.mem_iff.mp hx)) (by rw [List.length_append]; omega)), srtD_known hp]
  rw [ret_is e9]
  rfl
end
end LW
set_option Elab.async false
set_option linter.all false
set_option maxRecDepth 100000
set_option maxHeartbeats 1000000
set_option autoImplicit false
namespace LW
open PySem PySem.Spec L2 L3
section
variable {F G : DS → M Out} {f fa fb fc : DS → M DV} {fr : DS → M (List DV)} {gc : DS → M Bool} {g : DV → DV → M DV} {δ δ' : DS} {x y z : DV} {k : Bool} {r : M Out}
theorem sqN (h : F δ = rt (.nx δ')) (h2 : G δ' = r) : fSq F G δ = r := (sq_nx h).trans h2
theorem ifY (h : gc δ = rt true) (h2 : F δ = r) : fIf gc F G δ = r := (if_is h).trans h2
theorem ifF (h : gc δ = rt false) (h2 : G δ = r) : fIf gc F G δ = r := (if_is h).trans h2
theorem setN {i : Nat} (h : f δ = rt x) (ha : asgn x = some y) (h2 : δ.set i (some y) = δ') : fSet i f δ = rt (.nx δ') := by rw [set_is h ha, h2]
theorem callX_is {n : Nat} {fm : List DV → M DV} {xs ys : List DV} {w : M DV} (h : fr δ = rt xs) (ha : args xs = some ys) (hn : ys.length = n) (hm : fm ys = w) : eCb (gCallX n fm) fr δ = w := by
  rw [cb_is h]
  unfold gCallX
  rw [ha, op_some, bd_rt, if_pos hn, hm]
theorem par_is {i j : Nat} {a b : D} (h : fr δ = rt [.d a, .d b]) : fPar i j fr δ = rt (.nx ((δ.set i (some (.d a))).set j (some (.d b)))) := by unfold fPar; rw [h]; rfl
theorem try_er {C : Addr} (h : F δ = some (.error (.ref C))) : fTry F C k δ = rt (.rt (.d (.bool k))) := by
  unfold fTry
  rw [h]
  exact if_pos rfl
theorem try_rt {C : Addr} (h : F δ = rt (.rt x)) : fTry F C k δ = rt (.rt x) := by
  unfold fTry
  rw [h]; rfl
theorem ret_er {c : Value} (h : f δ = some (.error c)) : fRet f δ = some (.error c) := by unfold fRet; rw [h]; rfl
theorem mir_is {N : List Str} {xs : List DV} (h : F (dst N xs) = rt (.rt x)) : mir N F xs = rt (res x) := by unfold mir; rw [h]; rfl
theorem or_no {ga gb : DS → M Bool} {b : Bool} (h1 : ga δ = rt false) (h2 : gb δ = rt b) : bOr ga gb δ = rt b := by unfold bOr; rw [h1, bd_rt]; exact h2
theorem not_is' {ga : DS → M Bool} {a b : Bool} (h1 : ga δ = rt a) (hb : (!a) = b) : bNot ga δ = rt b := by rw [not_is h1, hb]
end
theorem comp_ex {α : Type} {f : α → D} {fe : DS → M DV} {δ : DS} {P : D → Prop} : ∀ {as : List α}, (∀ a ∈ as, ∃ y, fe (δ.set 0 (some (.d (f a)))) = rt (.d y) ∧ P y) → ∃ ys : List D, compD (sName 0) bYes fe δ (as.map f) = some ys ∧ (∀ y ∈ ys, P y) ∧ ys.length = as.length
  | [], _ => ⟨[], rfl, (fun y hy => nomatch hy), rfl⟩
  | a :: r, h => by
    obtain ⟨y, h1, p⟩ := h a List.mem_cons_self
    obtain ⟨ys, ih, p2, l2⟩ := comp_ex (as := r) (P := P) fun e he => h e (List.mem_cons_of_mem _ he)
    refine ⟨y :: ys, ?_, fun z hz => ?_, by rw [List.length_cons, List.length_cons, l2]⟩
    · rw [List.map_cons]
      unfold compD
      simp only [sName, bYes, rt]
      rw [h1, ih]
      rfl
    · rcases List.mem_cons.mp hz with e | e
      · rw [e]; exact p
      · exact p2 z e
theorem loop_all {i : Nat} {B : DS → M Out} {I : DS → Prop} : ∀ (xs : List D) (δ : DS), (∀ x ∈ xs, ∀ δ, I δ → ∃ δ', B (δ.set i (some (.d x))) = rt (.nx δ') ∧ I δ') → I δ → ∃ δ', loopD (sName i) B xs δ = rt (.nx δ') ∧ I δ'
  | [], δ, _, hI => ⟨δ, rfl, hI⟩
  | x :: xs, δ, h, hI => by
    obtain ⟨δ1, e1, h1⟩ := h x List.mem_cons_self δ hI
    obtain ⟨δ2, e2, h2⟩ := loop_all xs δ1 (fun y hy => h y (List.mem_cons_of_mem _ hy)) h1
    refine ⟨δ2, ?_, h2⟩
    unfold loopD
    have hs : sName i x δ = some (δ.set i (some (.d x))) := rfl
    rw [hs, op_some, bd_rt, e1, bd_rt, lpo_nx]
    exact e2
theorem for_is {fi : DS → M (List D)} {sf : D → DS → Option DS} {B : DS → M Out} {δ : DS} {xs : List D} {r : M Out} (h : fi δ = rt xs) (h2 : loopD sf B xs δ = r) : fFor fi sf B δ = r := by
  unfold fFor
  rw [h, bd_rt, h2]
theorem m_told' (a : Bool) : M__law_told [.d (.bool a), .d (.bool a)] = rt (.d (.bool true)) := by cases a <;> rfl
theorem atI_map' {α : Type} {f : α → D} {as : List α} {k : Nat} (h : k < as.length) (d : α) : atI (as.map f) (k : Int) = some (f (as.getD k d)) := by
  rw [atI_map, atI_nn h d]
  rfl
theorem gEq_prs2 {neg : Bool} {ps qs : List (Int × Int)} {x y : DV} (hx : asQ x = some (.list (ps.map pr))) (hy : asQ y = some (.list (qs.map pr))) : gEq neg x y = rt (.d (.bool (if neg = true then !decide (ps = qs) else decide (ps = qs)))) := by
  have h := gEq_prs neg ps qs y hy
  unfold gEq at h ⊢
  rw [hx]
  exact h
theorem mkE {C CB : Addr} {fa fb : DS → M DV} {δ : DS} {m c : Int} (h1 : fa δ = rt (.d (.int m))) (h2 : fb δ = rt (.d (.int c))) (h3 : 3 ≤ m) (h13 : m ≤ 13) (h4 : 1 ≤ c) (h5 : c ≤ 4) : eMkH C CB (aCons fa (aCons fb aNil)) δ = rt (hs C m c) := by
  unfold eMkH
  rw [cb_is (a2_is h1 h2)]
  show (if good m c = true then _ else _) = _
  rw [if_pos (by unfold good; simp; omega)]
  rfl
end LW
set_option Elab.async false
set_option linter.all false
set_option maxRecDepth 100000
set_option maxHeartbeats 1000000
set_option autoImplicit false
namespace LW
open PySem PySem.Spec L2 L3
section
variable {F G : DS → M Out} {B : DS → M Out} {f fe : DS → M DV} {fi : DS → M (List D)} {gc : DS → M Bool} {δ : DS} {r : M Out} {i k : Nat} {js : List Nat}
theorem forN {I : DS → Prop} {xs : List D} (h : fi δ = rt xs) (hI : I δ) (ht : ∀ x ∈ xs, ∀ δ, I δ → ∃ δ', B (δ.set i (some (.d x))) = rt (.nx δ') ∧ I δ') (kk : ∀ δ', I δ' → G δ' = r) : fSq (fFor fi (sName i) B) G δ = r := by
  obtain ⟨δ', e, h'⟩ := loop_all (i := i) (B := B) xs δ ht hI
  exact sqN (for_is h e) (kk δ' h')
theorem compE {α : Type} {fa : α → D} {as : List α} {P : D → Prop} (h : fi δ = rt (as.map fa)) (hl : as.length ≤ 1000000) (hc : ∀ a ∈ as, ∃ y, fe ((subD k js δ).set 0 (some (.d (fa a)))) = rt (.d y) ∧ P y) :
    ∃ ys : List D, eComp k js fi (sName 0) bYes fe δ = rt (.new ys) ∧ (∀ y ∈ ys, P y) ∧ ys.length = as.length := by
  obtain ⟨ys, e, p, l⟩ := comp_ex (f := fa) (as := as) (P := P) hc
  exact ⟨ys, eComp_is h (by rw [List.length_map]; exact hl) e, p, l⟩
theorem setCompN {α : Type} {fa : α → D} {as : List α} {P : D → Prop} (h : fi δ = rt (as.map fa)) (hl : as.length ≤ 1000000) (hc : ∀ a ∈ as, ∃ y, fe ((subD k js δ).set 0 (some (.d (fa a)))) = rt (.d y) ∧ P y)
    (kk : ∀ ys : List D, (∀ y ∈ ys, P y) → ys.length = as.length → G (δ.set i (some (.own ys))) = r) : fSq (fSet i (eComp k js fi (sName 0) bYes fe)) G δ = r := by
  obtain ⟨ys, e, p, l⟩ := compE (k := k) (js := js) h hl hc
  exact sqN (setN (x := .new ys) e rfl rfl) (kk ys p l)
theorem gPlus3_own (xs ys : List D) (hl : xs.length + ys.length ≤ 1000000) : gPlus3 (.own xs) (.new ys) = rt (.new (xs ++ ys)) := by
  unfold gPlus3 gOr
  have h0 : gPlus (.own xs) (.new ys) = rt (.new (xs ++ ys)) := cat_is rfl rfl rfl hl
  rw [h0]
  rfl
theorem ifCatN {α : Type} {fa : α → D} {as : List α} {P : D → Prop} {b : Bool} {xs : List D} (hg : gc δ = rt b) (hx : eVar i δ = rt (.own xs)) (hs : δ.set i (some (.own xs)) = δ) (h : fi δ = rt (as.map fa)) (hl : xs.length + as.length ≤ 1000000)
    (hc : b = true → ∀ a ∈ as, ∃ y, fe ((subD k js δ).set 0 (some (.d (fa a)))) = rt (.d y) ∧ P y)
    (kk : ∀ zs : List D, (∀ z ∈ zs, P z) → zs.length ≤ as.length → G (δ.set i (some (.own (xs ++ zs)))) = r) : fSq (fIf gc (fSet i (e2 gPlus3 (eVar i) (eComp k js fi (sName 0) bYes fe))) fNil) G δ = r := by
  cases b with
  | false =>
    refine sqN (ifF hg (show fNil δ = rt (.nx (δ.set i (some (.own (xs ++ []))))) from ?_)) (kk [] (fun z hz => nomatch hz) (Nat.zero_le _))
    rw [List.append_nil, hs]; rfl
  | true =>
    obtain ⟨zs, e, p, l⟩ := compE (k := k) (js := js) (P := P) h (by omega) (hc rfl)
    exact sqN (ifY hg (setN (x := .new (xs ++ zs)) ((e2_is hx e).trans (gPlus3_own xs zs (by omega))) rfl rfl)) (kk zs p (by omega))
end
theorem eIs_is {T t : String} {fa : DS → M DV} {δ : DS} {x : DV} {b : Bool} (h : fa δ = rt x) (ht : (asQ x).bind tyD = some t) (hb : isT T t = b) : eIs T fa δ = rt (.d (.bool b)) := by
  unfold eIs
  rw [h, bd_rt, ht, op_some, bd_rt, hb]
end LW
namespace LW
open PySem PySem.Spec L2 L3
section
variable {F G : DS → M Out} {f fa fb fc fd fe : DS → M DV} {fr : DS → M (List DV)} {fi : DS → M (List D)} {gc : DS → M Bool} {δ : DS} {Q : DS → Prop} {r : M Out} {i : Nat} {x y z u : DV} {b : Bool}
end
end LW
set_option Elab.async false
set_option linter.all false
set_option maxRecDepth 100000
set_option maxHeartbeats 1000000
set_option autoImplicit false
namespace K2
open PySem PySem.Spec L2 L3 LW
open PyProof.Rows hiding St
def top (i : Nat) : Stmt := PySem.Challenge.pw_meldhouse_k02_melds.main.body.getD i (.Pass ⟨0, 0, 0, 0⟩)
structure Tx (K : PySem.W.Frag) (mg : Str → Option Value) (C : Addr) : Prop where
  cl : Cls K C
  n_colours : NoAttr K C "colours"
  n_most : NoAttr K C "most"
  i_LEAST_NUMBERS : ∃ t, mg "LEAST_NUMBERS" = some (.int 3 t)
  i_MOST_NUMBERS : ∃ t, mg "MOST_NUMBERS" = some (.int 13 t)
  i_LEAST_COLOURS : ∃ t, mg "LEAST_COLOURS" = some (.int 1 t)
  i_MOST_COLOURS : ∃ t, mg "MOST_COLOURS" = some (.int 4 t)
  i_LEAST_SIZE : ∃ t, mg "LEAST_SIZE" = some (.int 3 t)
  b_all : mg "all" = none
  b_bool : mg "bool" = none
  b_isinstance : mg "isinstance" = none
  b_len : mg "len" = none
  b_list : mg "list" = none
  b_range : mg "range" = none
  b_sorted : mg "sorted" = none
  b_tuple : mg "tuple" = none
structure Rx (K : PySem.W.Frag) (mg : Str → Option Value) (E_BadHouse E_BadLaying E_MeldError : Addr) : Prop where
  x_BadLaying : Xc K mg "BadLaying" E_BadLaying
  q_BadLaying_MeldError : PySem.W.kitOne K (.ref E_BadLaying) (.ref E_MeldError) = some true
  m_MeldError : mg "MeldError" = some (.ref E_MeldError)
abbrev HsK (P : Program) (w : World) (K : PySem.W.Frag) (mg : Str → Option Value) (base : Heap) (C E_BadHouse : Addr) : Prop := Hs P w K mg base "House" C E_BadHouse good "most" "colours"
section
variable {P : Program} {w : World} {K : PySem.W.Frag} {mg : Str → Option Value} {base : Heap}
abbrev s_is_tile : Stmt := top 10
theorem sc_is_tile : FnScope ["house", "tile"] ["house", "tile"] (defScope s_is_tile) := ⟨rfl, rfl, rfl, by decide +kernel, rfl, by decide +kernel, by decide +kernel⟩
theorem h_is_tile {C E_BadHouse E_BadLaying E_MeldError : Addr} (T : Tx K mg C) (R : Rx K mg E_BadHouse E_BadLaying E_MeldError) (D : Df K mg "is_tile" s_is_tile ["house", "tile"])   : Has P w K mg base 1 "is_tile" 2 (M_is_tile C) := D.has fun f fd Fu => fn0 (k := 0) Fu sc_is_tile rfl fun cdv A outer s H E hr => by
  have hu := hu64 hr
  have nd := sc_is_tile.nd
  refine ds_one ?_
  exact st_ret (px_and (px_chain (ov_leX hu) (ov_leX hu) px_int (px_ix (px_var 1 (pv 1)) px_int) (px_fld (px_var 0 (pv 0)) T.cl T.n_most)) (px_one (px_chain (ov_leX hu) (ov_ltX hu) px_int (px_ix (px_var 1 (pv 1)) px_int) (px_fld (px_var 0 (pv 0)) T.cl T.n_colours))))
abbrev s_is_run : Stmt := top 13
theorem sc_is_run : FnScope ["house", "colour", "first", "size", "last"] ["house", "colour", "first", "size"] (defScope s_is_run) := ⟨rfl, rfl, rfl, by decide +kernel, rfl, by decide +kernel, by decide +kernel⟩
theorem h_is_run {C E_BadHouse E_BadLaying E_MeldError : Addr} (T : Tx K mg C) (R : Rx K mg E_BadHouse E_BadLaying E_MeldError) (D : Df K mg "is_run" s_is_run ["house", "colour", "first", "size"])  (h_is_tile : Has P w K mg base 1 "is_tile" 2 (M_is_tile C)) : Has P w K mg base 2 "is_run" 4 (M_is_run C) := D.has fun f fd Fu => fn0 (k := 1) Fu sc_is_run rfl fun cdv A outer s H E hr => by
  have hu := hu64 hr
  have nd := sc_is_run.nd
  refine ds_cons ?_ ?_
  · refine st_set (i := 4) ?_ ?_
    · exact nd
    · exact (px_op ov_sub (px_op ov_plus3 (px_var 2 (pv 2)) (px_var 3 (pv 3))) px_int)
  · refine ds_one ?_
    exact st_ret (px_and (px_cmp ov_ge (px_var 3 (pv 3)) (px_gi T.i_LEAST_SIZE)) (px_and (px_has (h_is_tile.mono (by decide)) hr (px_acons (px_var 0 (pv 0)) (px_acons (px_tup (px_acons (px_var 2 (pv 2)) (px_acons (px_var 1 (pv 1)) px_anil))) px_anil))) (px_one (px_has (h_is_tile.mono (by decide)) hr (px_acons (px_var 0 (pv 0)) (px_acons (px_tup (px_acons (px_var 4 (pv 4)) (px_acons (px_var 1 (pv 1)) px_anil))) px_anil))))))
abbrev s_is_group : Stmt := top 14
theorem sc_is_group : FnScope ["house", "number", "colours"] ["house", "number", "colours"] (defScope s_is_group) := ⟨rfl, rfl, rfl, by decide +kernel, rfl, by decide +kernel, by decide +kernel⟩
theorem h_is_group {C E_BadHouse E_BadLaying E_MeldError : Addr} (T : Tx K mg C) (R : Rx K mg E_BadHouse E_BadLaying E_MeldError) (D : Df K mg "is_group" s_is_group ["house", "number", "colours"])  (h_is_tile : Has P w K mg base 1 "is_tile" 2 (M_is_tile C)) : Has P w K mg base 2 "is_group" 3 (M_is_group C) := D.has fun f fd Fu => fn0 (k := 1) Fu sc_is_group rfl fun cdv A outer s H E hr => by
  have hu := hu64 hr
  have nd := sc_is_group.nd
  refine ds_cons ?_ ?_
  · refine st_if ?_ ?_ ?_
    · exact (pb_cmp (ov_ltX hu) (px_callB cv_len rfl T.b_len bt_len (px_acons (px_var 2 (pv 2)) px_anil)) (px_gi T.i_LEAST_SIZE))
    · refine ds_one ?_
      exact st_ret px_bl
    · exact ds_nil
  · refine ds_cons ?_ ?_
    · refine st_if ?_ ?_ ?_
      · exact (pb_not (pb_val (px_callB (cv_all rfl) rfl T.b_all bt_all (px_acons (px_comp (N' := ["colour", "house", "number"]) (CompSc.fit (sc := defScope s_is_group) (N := ["house", "number", "colours"]) ⟨rfl, by decide +kernel, by decide +kernel, by decide +kernel, rfl, by decide +kernel⟩) (by decide) rfl (ix_tp (px_var 2 (pv 2))) (tg_name 0) (sub_name (by decide)) (fun _ _ _ _ => (pg_name (i := 0) (show List.Nodup (["colour", "house", "number"] : List Str) by decide +kernel) rfl (by first | exact Or.inl rfl | exact Or.inr rfl))) (fun _ _ _ _ => pf_yes) (fun _ _ _ _ => (px_has (h_is_tile.mono (by decide)) hr (px_acons (px_var 1 (pv 1)) (px_acons (px_tup (px_acons (px_var 2 (pv 2)) (px_acons (px_var 0 (pv 0)) px_anil))) px_anil))))) px_anil))))
      · refine ds_one ?_
        exact st_ret px_bl
      · exact ds_nil
    · refine ds_one ?_
      exact st_ret (px_callB (cv_all rfl) rfl T.b_all bt_all (px_acons (px_comp (N' := ["k", "colours"]) (CompSc.fit (sc := defScope s_is_group) (N := ["house", "number", "colours"]) ⟨rfl, by decide +kernel, by decide +kernel, by decide +kernel, rfl, by decide +kernel⟩) (by decide) rfl (ix_r2 T.b_range (px_acons px_int (px_acons (px_callB cv_len rfl T.b_len bt_len (px_acons (px_var 2 (pv 2)) px_anil)) px_anil))) (tg_name 0) (sub_name (by decide)) (fun _ _ _ _ => (pg_name (i := 0) (show List.Nodup (["k", "colours"] : List Str) by decide +kernel) rfl (by first | exact Or.inl rfl | exact Or.inr rfl))) (fun _ _ _ _ => pf_yes) (fun _ _ _ _ => (px_cmp (ov_ltX hu) (px_ix (px_var 1 (pv 1)) (px_op ov_sub (px_var 0 (pv 0)) px_int)) (px_ix (px_var 1 (pv 1)) (px_var 0 (pv 0)))))) px_anil))
abbrev s_is_meld : Stmt := top 15
theorem sc_is_meld : FnScope ["house", "meld"] ["house", "meld"] (defScope s_is_meld) := ⟨rfl, rfl, rfl, by decide +kernel, rfl, by decide +kernel, by decide +kernel⟩
theorem h_is_meld {C E_BadHouse E_BadLaying E_MeldError : Addr} (T : Tx K mg C) (R : Rx K mg E_BadHouse E_BadLaying E_MeldError) (D : Df K mg "is_meld" s_is_meld ["house", "meld"])  (h_is_run : Has P w K mg base 2 "is_run" 4 (M_is_run C)) (h_is_group : Has P w K mg base 2 "is_group" 3 (M_is_group C)) : Has P w K mg base 3 "is_meld" 2 (M_is_meld C) := D.has fun f fd Fu => fn0 (k := 2) Fu sc_is_meld rfl fun cdv A outer s H E hr => by
  have hu := hu64 hr
  have nd := sc_is_meld.nd
  refine ds_cons ?_ ?_
  · refine st_if ?_ ?_ ?_
    · exact (pb_cmp (ov_eq hu) (px_ix (px_var 1 (pv 1)) px_int) (px_str (by decide +kernel)))
    · refine ds_one ?_
      exact st_ret (px_has (h_is_run.mono (by decide)) hr (by refine px_acons ?_ ?_; (exact (px_var 0 (pv 0))); (exact (by refine px_acons ?_ ?_; (exact (px_ix (px_var 1 (pv 1)) px_int)); (exact (by refine px_acons ?_ ?_; (exact (px_ix (px_var 1 (pv 1)) px_int)); (exact (by refine px_acons ?_ ?_; (exact (px_ix (px_var 1 (pv 1)) px_int)); (exact px_anil)))))))))
    · exact ds_nil
  · refine ds_one ?_
    exact st_ret (px_and (px_cmp (ov_eq hu) (px_ix (px_var 1 (pv 1)) px_int) (px_str (by decide +kernel))) (px_one (px_has (h_is_group.mono (by decide)) hr (by refine px_acons ?_ ?_; (exact (px_var 0 (pv 0))); (exact (px_acons (px_ix (px_var 1 (pv 1)) px_int) (px_acons (px_ix (px_var 1 (pv 1)) px_int) px_anil)))))))
abbrev s_tiles_of : Stmt := top 16
theorem sc_tiles_of : FnScope ["house", "meld"] ["house", "meld"] (defScope s_tiles_of) := ⟨rfl, rfl, rfl, by decide +kernel, rfl, by decide +kernel, by decide +kernel⟩
theorem h_tiles_of {C E_BadHouse E_BadLaying E_MeldError : Addr} (T : Tx K mg C) (R : Rx K mg E_BadHouse E_BadLaying E_MeldError) (D : Df K mg "tiles_of" s_tiles_of ["house", "meld"])  (h_is_meld : Has P w K mg base 3 "is_meld" 2 (M_is_meld C)) : HasX P w K mg base 4 "tiles_of" 2 (M_tiles_of C E_BadLaying) := D.hasX fun f fd Fu => fnX (k := 3) Fu sc_tiles_of rfl fun cdv A outer s H E hr => by
  have hu := hu64 hr
  have nd := sc_tiles_of.nd
  refine ds_cons ?_ ?_
  · refine st_if ?_ ?_ ?_
    · exact (pb_not (pb_val (px_has (h_is_meld.mono (by decide)) hr (px_acons (px_var 0 (pv 0)) (px_acons (px_var 1 (pv 1)) px_anil)))))
    · refine ds_one ?_
      exact st_raise (makes_fn hr) R.x_BadLaying
    · exact ds_nil
  · refine ds_cons ?_ ?_
    · refine st_if ?_ ?_ ?_
      · exact (pb_cmp (ov_eq hu) (px_ix (px_var 1 (pv 1)) px_int) (px_str (by decide +kernel)))
      · refine ds_one ?_
        exact st_ret (px_comp (N' := ["k", "meld"]) (CompSc.fit (sc := defScope s_tiles_of) (N := ["house", "meld"]) ⟨rfl, by decide +kernel, by decide +kernel, by decide +kernel, rfl, by decide +kernel⟩) (by decide) rfl (ix_r1 T.b_range (px_acons (px_ix (px_var 1 (pv 1)) px_int) px_anil)) (tg_name 0) (sub_name (by decide)) (fun _ _ _ _ => (pg_name (i := 0) (show List.Nodup (["k", "meld"] : List Str) by decide +kernel) rfl (by first | exact Or.inl rfl | exact Or.inr rfl))) (fun _ _ _ _ => pf_yes) (fun _ _ _ _ => (px_tup (px_acons (px_op ov_plus3 (px_ix (px_var 1 (pv 1)) px_int) (px_var 0 (pv 0))) (px_acons (px_ix (px_var 1 (pv 1)) px_int) px_anil)))))
      · exact ds_nil
    · refine ds_one ?_
      exact st_ret (px_comp (N' := ["colour", "meld"]) (CompSc.fit (sc := defScope s_tiles_of) (N := ["house", "meld"]) ⟨rfl, by decide +kernel, by decide +kernel, by decide +kernel, rfl, by decide +kernel⟩) (by decide) rfl (ix_tp (px_ix (px_var 1 (pv 1)) px_int)) (tg_name 0) (sub_name (by decide)) (fun _ _ _ _ => (pg_name (i := 0) (show List.Nodup (["colour", "meld"] : List Str) by decide +kernel) rfl (by first | exact Or.inl rfl | exact Or.inr rfl))) (fun _ _ _ _ => pf_yes) (fun _ _ _ _ => (px_tup (px_acons (px_ix (px_var 1 (pv 1)) px_int) (px_acons (px_var 0 (pv 0)) px_anil)))))
abbrev s_colour_choices : Stmt := top 17
theorem sc_colour_choices : FnScope ["house", "choices", "colour"] ["house"] (defScope s_colour_choices) := ⟨rfl, rfl, rfl, by decide +kernel, rfl, by decide +kernel, by decide +kernel⟩
theorem h_colour_choices {C E_BadHouse E_BadLaying E_MeldError : Addr} (T : Tx K mg C) (R : Rx K mg E_BadHouse E_BadLaying E_MeldError) (D : Df K mg "colour_choices" s_colour_choices ["house"])   : Has P w K mg base 1 "colour_choices" 1 (M_colour_choices C) := D.has fun f fd Fu => fn0 (k := 0) Fu sc_colour_choices rfl fun cdv A outer s H E hr => by
  have hu := hu64 hr
  have nd := sc_colour_choices.nd
  refine ds_cons ?_ ?_
  · refine st_set (i := 1) ?_ ?_
    · exact nd
    · exact (px_lst (px_acons (px_tup px_anil) px_anil))
  · refine ds_cons ?_ ?_
    · refine st_for PassesOwn.never rfl ?_ (pg_name (i := 2) (by exact nd) rfl (by first | exact Or.inl rfl | exact Or.inr rfl)) (tg_name 2) ?_
      · exact (ix_r1 T.b_range (px_acons (px_fld (px_var 0 (pv 0)) T.cl T.n_colours) px_anil))
      · refine ds_frz 1 ?_
        refine ds_one ?_
        refine st_set (i := 1) ?_ ?_
        · exact nd
        · exact (px_op ov_plus3 (px_var 1 (pv 1)) (px_comp (N' := ["choice", "colour"]) (CompSc.fit (sc := defScope s_colour_choices) (N := ["house", "choices", "colour"]) ⟨rfl, by decide +kernel, by decide +kernel, by decide +kernel, rfl, by decide +kernel⟩) (by decide) rfl (ix_ls (px_var 1 (pv 1))) (tg_name 0) (sub_name (by decide)) (fun _ _ _ _ => (pg_name (i := 0) (show List.Nodup (["choice", "colour"] : List Str) by decide +kernel) rfl (by first | exact Or.inl rfl | exact Or.inr rfl))) (fun _ _ _ _ => pf_yes) (fun _ _ _ _ => (px_op ov_plus3 (px_var 0 (pv 0)) (px_tup (px_acons (px_var 1 (pv 1)) px_anil))))))
    · refine ds_frz 1 ?_
      refine ds_one ?_
      exact st_ret (px_callB (cv_sorted hu) rfl T.b_sorted bt_sorted (px_acons (px_comp (N' := ["choice"]) (CompSc.fit (sc := defScope s_colour_choices) (N := ["house", "choices", "colour"]) ⟨rfl, by decide +kernel, by decide +kernel, by decide +kernel, rfl, by decide +kernel⟩) (by decide) rfl (ix_ls (px_var 1 (pv 1))) (tg_name 0) (sub_name (by decide)) (fun _ _ _ _ => (pg_name (i := 0) (show List.Nodup (["choice"] : List Str) by decide +kernel) rfl (by first | exact Or.inl rfl | exact Or.inr rfl))) (fun _ _ _ _ => pf_one (pb_cmp ov_ge (px_callB cv_len rfl T.b_len bt_len (px_acons (px_var 0 (pv 0)) px_anil)) (px_gi T.i_LEAST_SIZE))) (fun _ _ _ _ => (px_var 0 (pv 0)))) px_anil))
abbrev s_all_groups : Stmt := top 18
theorem sc_all_groups : FnScope ["house", "choices", "found", "number"] ["house"] (defScope s_all_groups) := ⟨rfl, rfl, rfl, by decide +kernel, rfl, by decide +kernel, by decide +kernel⟩
theorem h_all_groups {C E_BadHouse E_BadLaying E_MeldError : Addr} (T : Tx K mg C) (R : Rx K mg E_BadHouse E_BadLaying E_MeldError) (D : Df K mg "all_groups" s_all_groups ["house"])  (h_colour_choices : Has P w K mg base 1 "colour_choices" 1 (M_colour_choices C)) : Has P w K mg base 2 "all_groups" 1 (M_all_groups C) := D.has fun f fd Fu => fn0 (k := 1) Fu sc_all_groups rfl fun cdv A outer s H E hr => by
  have hu := hu64 hr
  have nd := sc_all_groups.nd
  refine ds_cons ?_ ?_
  · refine st_set (i := 1) ?_ ?_
    · exact nd
    · exact (px_has (h_colour_choices.mono (by decide)) hr (px_acons (px_var 0 (pv 0)) px_anil))
  · refine ds_cons ?_ ?_
    · refine st_set (i := 2) ?_ ?_
      · exact nd
      · exact (px_lst px_anil)
    · refine ds_cons ?_ ?_
      · refine st_for PassesOwn.never rfl ?_ (pg_name (i := 3) (by exact nd) rfl (by first | exact Or.inl rfl | exact Or.inr rfl)) (tg_name 3) ?_
        · exact (ix_r2 T.b_range (px_acons px_int (px_acons (px_op ov_plus3 (px_fld (px_var 0 (pv 0)) T.cl T.n_most) px_int) px_anil)))
        · refine ds_frz 1 ?_
          refine ds_one ?_
          refine st_ext (pv 2) ?_
          exact (px_comp (N' := ["choice", "number"]) (CompSc.fit (sc := defScope s_all_groups) (N := ["house", "choices", "found", "number"]) ⟨rfl, by decide +kernel, by decide +kernel, by decide +kernel, rfl, by decide +kernel⟩) (by decide) rfl (ix_ls (px_var 1 (pv 1))) (tg_name 0) (sub_name (by decide)) (fun _ _ _ _ => (pg_name (i := 0) (show List.Nodup (["choice", "number"] : List Str) by decide +kernel) rfl (by first | exact Or.inl rfl | exact Or.inr rfl))) (fun _ _ _ _ => pf_yes) (fun _ _ _ _ => (px_tup (by refine px_acons ?_ ?_; (exact (px_str (by decide +kernel))); (exact (px_acons (px_var 1 (pv 1)) (px_acons (px_var 0 (pv 0)) px_anil)))))))
      · refine ds_one ?_
        exact st_ret (px_var 2 (pv 2))
abbrev s_all_runs : Stmt := top 19
theorem sc_all_runs : FnScope ["house", "found", "colour", "first", "room"] ["house"] (defScope s_all_runs) := ⟨rfl, rfl, rfl, by decide +kernel, rfl, by decide +kernel, by decide +kernel⟩
theorem h_all_runs {C E_BadHouse E_BadLaying E_MeldError : Addr} (T : Tx K mg C) (R : Rx K mg E_BadHouse E_BadLaying E_MeldError) (D : Df K mg "all_runs" s_all_runs ["house"])   : Has P w K mg base 1 "all_runs" 1 (M_all_runs C) := D.has fun f fd Fu => fn0 (k := 0) Fu sc_all_runs rfl fun cdv A outer s H E hr => by
  have hu := hu64 hr
  have nd := sc_all_runs.nd
  refine ds_cons ?_ ?_
  · refine st_set (i := 1) ?_ ?_
    · exact nd
    · exact (px_lst px_anil)
  · refine ds_cons ?_ ?_
    · refine st_for PassesOwn.never rfl ?_ (pg_name (i := 2) (by exact nd) rfl (by first | exact Or.inl rfl | exact Or.inr rfl)) (tg_name 2) ?_
      · exact (ix_r1 T.b_range (px_acons (px_fld (px_var 0 (pv 0)) T.cl T.n_colours) px_anil))
      · refine ds_one ?_
        refine st_for PassesOwn.never rfl ?_ (pg_name (i := 3) (by exact nd) rfl (by first | exact Or.inl rfl | exact Or.inr rfl)) (tg_name 3) ?_
        · exact (ix_r2 T.b_range (px_acons px_int (px_acons (px_op ov_plus3 (px_fld (px_var 0 (pv 0)) T.cl T.n_most) px_int) px_anil)))
        · refine ds_cons ?_ ?_
          · refine st_set (i := 4) ?_ ?_
            · exact nd
            · exact (px_op ov_plus3 (px_op ov_sub (px_fld (px_var 0 (pv 0)) T.cl T.n_most) (px_var 3 (pv 3))) px_int)
          · refine ds_one ?_
            refine st_ext (pv 1) ?_
            exact (px_comp (N' := ["size", "colour", "first"]) (CompSc.fit (sc := defScope s_all_runs) (N := ["house", "found", "colour", "first", "room"]) ⟨rfl, by decide +kernel, by decide +kernel, by decide +kernel, rfl, by decide +kernel⟩) (by decide) rfl (ix_r2 T.b_range (px_acons (px_gi T.i_LEAST_SIZE) (px_acons (px_op ov_plus3 (px_var 4 (pv 4)) px_int) px_anil))) (tg_name 0) (sub_name (by decide)) (fun _ _ _ _ => (pg_name (i := 0) (show List.Nodup (["size", "colour", "first"] : List Str) by decide +kernel) rfl (by first | exact Or.inl rfl | exact Or.inr rfl))) (fun _ _ _ _ => pf_yes) (fun _ _ _ _ => (px_tup (by refine px_acons ?_ ?_; (exact (px_str (by decide +kernel))); (exact (by refine px_acons ?_ ?_; (exact (px_var 1 (pv 1))); (exact (by refine px_acons ?_ ?_; (exact (px_var 2 (pv 2))); (exact (by refine px_acons ?_ ?_; (exact (px_var 0 (pv 0))); (exact px_anil)))))))))))
    · refine ds_one ?_
      exact st_ret (px_var 1 (pv 1))
abbrev s_melds : Stmt := top 20
theorem sc_melds : FnScope ["house"] ["house"] (defScope s_melds) := ⟨rfl, rfl, rfl, by decide +kernel, rfl, by decide +kernel, by decide +kernel⟩
theorem h_melds {C E_BadHouse E_BadLaying E_MeldError : Addr} (T : Tx K mg C) (R : Rx K mg E_BadHouse E_BadLaying E_MeldError) (D : Df K mg "melds" s_melds ["house"])  (h_all_groups : Has P w K mg base 2 "all_groups" 1 (M_all_groups C)) (h_all_runs : Has P w K mg base 1 "all_runs" 1 (M_all_runs C)) : Has P w K mg base 3 "melds" 1 (M_melds C) := D.has fun f fd Fu => fn0 (k := 2) Fu sc_melds rfl fun cdv A outer s H E hr => by
  have hu := hu64 hr
  have nd := sc_melds.nd
  refine ds_one ?_
  exact st_ret (px_op ov_plus3 (px_has (h_all_groups.mono (by decide)) hr (px_acons (px_var 0 (pv 0)) px_anil)) (px_has (h_all_runs.mono (by decide)) hr (px_acons (px_var 0 (pv 0)) px_anil)))
abbrev s__law_cell_at : Stmt := top 22
theorem sc__law_cell_at : FnScope ["script", "k"] ["script", "k"] (defScope s__law_cell_at) := ⟨rfl, rfl, rfl, by decide +kernel, rfl, by decide +kernel, by decide +kernel⟩
theorem h__law_cell_at {C E_BadHouse E_BadLaying E_MeldError : Addr} (T : Tx K mg C) (R : Rx K mg E_BadHouse E_BadLaying E_MeldError) (D : Df K mg "_law_cell_at" s__law_cell_at ["script", "k"])   : Has P w K mg base 1 "_law_cell_at" 2 (M__law_cell_at K) := D.has fun f fd Fu => fn0 (k := 0) Fu sc__law_cell_at rfl fun cdv A outer s H E hr => by
  have hu := hu64 hr
  have nd := sc__law_cell_at.nd
  refine ds_cons ?_ ?_
  · refine st_if ?_ ?_ ?_
    · exact (pb_cmp (ov_ltX hu) (px_var 1 (pv 1)) (px_callB cv_lenS rfl T.b_len bt_len (px_acons (px_var 0 (pv 0)) px_anil)))
    · refine ds_one ?_
      exact st_ret (px_ixS (px_var 0 (pv 0)) (px_var 1 (pv 1)))
    · exact ds_nil
  · refine ds_one ?_
    exact st_ret px_int
abbrev s__law_mix : Stmt := top 23
theorem sc__law_mix : FnScope ["cell", "k", "many", "some", "stir"] ["cell", "k", "many"] (defScope s__law_mix) := ⟨rfl, rfl, rfl, by decide +kernel, rfl, by decide +kernel, by decide +kernel⟩
theorem h__law_mix {C E_BadHouse E_BadLaying E_MeldError : Addr} (T : Tx K mg C) (R : Rx K mg E_BadHouse E_BadLaying E_MeldError) (D : Df K mg "_law_mix" s__law_mix ["cell", "k", "many"])   : Has P w K mg base 1 "_law_mix" 3 (M__law_mix) := D.has fun f fd Fu => fn0 (k := 0) Fu sc__law_mix rfl fun cdv A outer s H E hr => by
  have hu := hu64 hr
  have nd := sc__law_mix.nd
  refine ds_cons ?_ ?_
  · refine st_set (i := 3) ?_ ?_
    · exact nd
    · exact (by refine px_lst ?_; (exact (by refine px_acons ?_ ?_; (exact (by exact px_int)); (exact (by refine px_acons ?_ ?_; (exact (by exact px_int)); (exact (by refine px_acons ?_ ?_; (exact (by exact px_int)); (exact (by refine px_acons ?_ ?_; (exact (by exact px_int)); (exact (by refine px_acons ?_ ?_; (exact (by exact px_int)); (exact (by refine px_acons ?_ ?_; (exact (by exact px_int)); (exact (by refine px_acons ?_ ?_; (exact (by exact px_int)); (exact (by refine px_acons ?_ ?_; (exact (by exact px_int)); (exact (by refine px_acons ?_ ?_; (exact (by exact px_int)); (exact (by refine px_acons ?_ ?_; (exact (by exact px_int)); (exact (by refine px_acons ?_ ?_; (exact (by exact px_int)); (exact (by refine px_acons ?_ ?_; (exact (by exact px_int)); (exact (by refine px_acons ?_ ?_; (exact (by exact px_int)); (exact px_anil))))))))))))))))))))))))))))
  · refine ds_cons ?_ ?_
    · refine st_set (i := 4) ?_ ?_
      · exact nd
      · exact (px_op ov_plus (px_op ov_plus (px_op ov_times (px_op ov_plus (px_op ov_mod (px_var 0 (pv 0)) (by exact px_int)) (by exact px_int)) (px_ix (px_var 3 (pv 3)) (px_op ov_mod (px_var 1 (pv 1)) px_int))) (px_op ov_times (by exact px_int) (px_var 1 (pv 1)))) (px_op ov_times (by exact px_int) (px_op ov_div (px_var 1 (pv 1)) px_int)))
    · refine ds_cons ?_ ?_
      · refine st_set (i := 4) ?_ ?_
        · exact nd
        · exact (px_op ov_mod (px_var 4 (pv 4)) (by exact px_int))
      · refine ds_one ?_
        exact st_ret (px_op ov_mod (px_op ov_div (px_op ov_mod (px_op ov_plus (px_op ov_times (px_var 4 (pv 4)) (px_var 4 (pv 4))) (px_op ov_times (by exact px_int) (px_var 1 (pv 1)))) (by exact px_int)) px_int) (px_var 2 (pv 2)))
abbrev s__law_told : Stmt := top 24
theorem sc__law_told : FnScope ["found", "due"] ["found", "due"] (defScope s__law_told) := ⟨rfl, rfl, rfl, by decide +kernel, rfl, by decide +kernel, by decide +kernel⟩
theorem h__law_told {C E_BadHouse E_BadLaying E_MeldError : Addr} (T : Tx K mg C) (R : Rx K mg E_BadHouse E_BadLaying E_MeldError) (D : Df K mg "_law_told" s__law_told ["found", "due"])   : Has P w K mg base 1 "_law_told" 2 (M__law_told) := D.has fun f fd Fu => fn0 (k := 0) Fu sc__law_told rfl fun cdv A outer s H E hr => by
  have hu := hu64 hr
  have nd := sc__law_told.nd
  refine ds_one ?_
  exact st_ret (px_and (px_is (by decide) T.b_isinstance T.b_bool bt_bool (px_var 0 (pv 0))) (px_one (px_cmp (ov_eq hu) (px_var 0 (pv 0)) (px_var 1 (pv 1)))))
abbrev s__law_house_by : Stmt := top 25
theorem sc__law_house_by : FnScope ["script", "cell"] ["script"] (defScope s__law_house_by) := ⟨rfl, rfl, rfl, by decide +kernel, rfl, by decide +kernel, by decide +kernel⟩
theorem h__law_house_by {C E_BadHouse E_BadLaying E_MeldError : Addr} (T : Tx K mg C) (R : Rx K mg E_BadHouse E_BadLaying E_MeldError) (D : Df K mg "_law_house_by" s__law_house_by ["script"])  (h__law_cell_at : Has P w K mg base 1 "_law_cell_at" 2 (M__law_cell_at K)) (h__law_mix : Has P w K mg base 1 "_law_mix" 3 (M__law_mix)) : Has P w K mg base 2 "_law_house_by" 1 (M__law_house_by K) := D.has fun f fd Fu => fn0 (k := 1) Fu sc__law_house_by rfl fun cdv A outer s H E hr => by
  have hu := hu64 hr
  have nd := sc__law_house_by.nd
  refine ds_cons ?_ ?_
  · refine st_set (i := 1) ?_ ?_
    · exact nd
    · exact (px_has (h__law_cell_at.mono (by decide)) hr (px_acons (px_var 0 (pv 0)) (px_acons px_int px_anil)))
  · refine ds_one ?_
    exact st_ret (px_tup (px_acons (px_op ov_plus px_int (px_has (h__law_mix.mono (by decide)) hr (by refine px_acons ?_ ?_; (exact (px_var 1 (pv 1))); (exact (px_acons px_int (px_acons (px_ix (by refine px_lst ?_; (exact (by refine px_acons ?_ ?_; (exact px_int); (exact (by refine px_acons ?_ ?_; (exact px_int); (exact (by refine px_acons ?_ ?_; (exact px_int); (exact (by refine px_acons ?_ ?_; (exact px_int); (exact px_anil)))))))))) (px_has (h__law_mix.mono (by decide)) hr (by refine px_acons ?_ ?_; (exact (px_var 1 (pv 1))); (exact (px_acons px_int (px_acons px_int px_anil)))))) px_anil)))))) (px_acons (px_op ov_plus px_int (px_has (h__law_mix.mono (by decide)) hr (by refine px_acons ?_ ?_; (exact (px_var 1 (pv 1))); (exact (px_acons px_int (px_acons px_int px_anil)))))) px_anil)))
abbrev s__law_tiles : Stmt := top 29
theorem sc__law_tiles : FnScope ["meld"] ["meld"] (defScope s__law_tiles) := ⟨rfl, rfl, rfl, by decide +kernel, rfl, by decide +kernel, by decide +kernel⟩
theorem h__law_tiles {C E_BadHouse E_BadLaying E_MeldError : Addr} (T : Tx K mg C) (R : Rx K mg E_BadHouse E_BadLaying E_MeldError) (D : Df K mg "_law_tiles" s__law_tiles ["meld"])   : Has P w K mg base 1 "_law_tiles" 1 (M__law_tiles) := D.has fun f fd Fu => fn0 (k := 0) Fu sc__law_tiles rfl fun cdv A outer s H E hr => by
  have hu := hu64 hr
  have nd := sc__law_tiles.nd
  refine ds_cons ?_ ?_
  · refine st_if ?_ ?_ ?_
    · exact (pb_cmp (ov_eq hu) (px_ix (px_var 0 (pv 0)) px_int) (px_str (by decide +kernel)))
    · refine ds_one ?_
      exact st_ret (px_comp (N' := ["k", "meld"]) (CompSc.fit (sc := defScope s__law_tiles) (N := ["meld"]) ⟨rfl, by decide +kernel, by decide +kernel, by decide +kernel, rfl, by decide +kernel⟩) (by decide) rfl (ix_r1 T.b_range (px_acons (px_ix (px_var 0 (pv 0)) px_int) px_anil)) (tg_name 0) (sub_name (by decide)) (fun _ _ _ _ => (pg_name (i := 0) (show List.Nodup (["k", "meld"] : List Str) by decide +kernel) rfl (by first | exact Or.inl rfl | exact Or.inr rfl))) (fun _ _ _ _ => pf_yes) (fun _ _ _ _ => (px_tup (px_acons (px_op ov_plus3 (px_ix (px_var 1 (pv 1)) px_int) (px_var 0 (pv 0))) (px_acons (px_ix (px_var 1 (pv 1)) px_int) px_anil)))))
    · exact ds_nil
  · refine ds_one ?_
    exact st_ret (px_comp (N' := ["colour", "meld"]) (CompSc.fit (sc := defScope s__law_tiles) (N := ["meld"]) ⟨rfl, by decide +kernel, by decide +kernel, by decide +kernel, rfl, by decide +kernel⟩) (by decide) rfl (ix_tp (px_ix (px_var 0 (pv 0)) px_int)) (tg_name 0) (sub_name (by decide)) (fun _ _ _ _ => (pg_name (i := 0) (show List.Nodup (["colour", "meld"] : List Str) by decide +kernel) rfl (by first | exact Or.inl rfl | exact Or.inr rfl))) (fun _ _ _ _ => pf_yes) (fun _ _ _ _ => (px_tup (px_acons (px_ix (px_var 1 (pv 1)) px_int) (px_acons (px_var 0 (pv 0)) px_anil)))))
abbrev s__law_melds : Stmt := top 30
theorem sc__law_melds : FnScope ["most", "colours", "found", "colour", "first", "kinds", "number"] ["most", "colours"] (defScope s__law_melds) := ⟨rfl, rfl, rfl, by decide +kernel, rfl, by decide +kernel, by decide +kernel⟩
theorem h__law_melds {C E_BadHouse E_BadLaying E_MeldError : Addr} (T : Tx K mg C) (R : Rx K mg E_BadHouse E_BadLaying E_MeldError) (D : Df K mg "_law_melds" s__law_melds ["most", "colours"])   : Has P w K mg base 1 "_law_melds" 2 (M__law_melds) := D.has fun f fd Fu => fn0 (k := 0) Fu sc__law_melds rfl fun cdv A outer s H E hr => by
  have hu := hu64 hr
  have nd := sc__law_melds.nd
  refine ds_cons ?_ ?_
  · refine st_set (i := 2) ?_ ?_
    · exact nd
    · exact (px_lst px_anil)
  · refine ds_cons ?_ ?_
    · refine st_for PassesOwn.never rfl ?_ (pg_name (i := 3) (by exact nd) rfl (by first | exact Or.inl rfl | exact Or.inr rfl)) (tg_name 3) ?_
      · exact (ix_r1 T.b_range (px_acons (px_var 1 (pv 1)) px_anil))
      · refine ds_one ?_
        refine st_for PassesOwn.never rfl ?_ (pg_name (i := 4) (by exact nd) rfl (by first | exact Or.inl rfl | exact Or.inr rfl)) (tg_name 4) ?_
        · exact (ix_r2 T.b_range (px_acons px_int (px_acons (px_op ov_plus3 (px_var 0 (pv 0)) px_int) px_anil)))
        · refine ds_one ?_
          refine st_set (i := 2) ?_ ?_
          · exact nd
          · exact (px_op ov_plus3 (px_var 2 (pv 2)) (px_comp (N' := ["last", "colour", "first"]) (CompSc.fit (sc := defScope s__law_melds) (N := ["most", "colours", "found", "colour", "first", "kinds", "number"]) ⟨rfl, by decide +kernel, by decide +kernel, by decide +kernel, rfl, by decide +kernel⟩) (by decide) rfl (ix_r2 T.b_range (px_acons (px_op ov_plus3 (px_var 4 (pv 4)) px_int) (px_acons (px_op ov_plus3 (px_var 0 (pv 0)) px_int) px_anil))) (tg_name 0) (sub_name (by decide)) (fun _ _ _ _ => (pg_name (i := 0) (show List.Nodup (["last", "colour", "first"] : List Str) by decide +kernel) rfl (by first | exact Or.inl rfl | exact Or.inr rfl))) (fun _ _ _ _ => pf_yes) (fun _ _ _ _ => (px_tup (by refine px_acons ?_ ?_; (exact (px_str (by decide +kernel))); (exact (by refine px_acons ?_ ?_; (exact (px_var 1 (pv 1))); (exact (by refine px_acons ?_ ?_; (exact (px_var 2 (pv 2))); (exact (by refine px_acons ?_ ?_; (exact (px_op ov_plus3 (px_op ov_sub (px_var 0 (pv 0)) (px_var 2 (pv 2))) px_int)); (exact px_anil))))))))))))
    · refine ds_cons ?_ ?_
      · refine st_set (i := 5) ?_ ?_
        · exact nd
        · exact (px_lst (px_acons (px_lst px_anil) px_anil))
      · refine ds_cons ?_ ?_
        · refine st_for PassesOwn.never rfl ?_ (pg_name (i := 3) (by exact nd) rfl (by first | exact Or.inl rfl | exact Or.inr rfl)) (tg_name 3) ?_
          · exact (ix_r1 T.b_range (px_acons (px_var 1 (pv 1)) px_anil))
          · refine ds_frz 5 ?_
            refine ds_one ?_
            refine st_set (i := 5) ?_ ?_
            · exact nd
            · exact (px_op ov_plus3 (px_var 5 (pv 5)) (px_comp (N' := ["kind", "colour"]) (CompSc.fit (sc := defScope s__law_melds) (N := ["most", "colours", "found", "colour", "first", "kinds", "number"]) ⟨rfl, by decide +kernel, by decide +kernel, by decide +kernel, rfl, by decide +kernel⟩) (by decide) rfl (ix_ls (px_var 5 (pv 5))) (tg_name 0) (sub_name (by decide)) (fun _ _ _ _ => (pg_name (i := 0) (show List.Nodup (["kind", "colour"] : List Str) by decide +kernel) rfl (by first | exact Or.inl rfl | exact Or.inr rfl))) (fun _ _ _ _ => pf_yes) (fun _ _ _ _ => (px_op ov_plus3 (px_var 0 (pv 0)) (px_lst (px_acons (px_var 1 (pv 1)) px_anil))))))
        · refine ds_cons ?_ ?_
          · refine st_for PassesOwn.never rfl ?_ (pg_name (i := 6) (by exact nd) rfl (by first | exact Or.inl rfl | exact Or.inr rfl)) (tg_name 6) ?_
            · exact (ix_r2 T.b_range (px_acons px_int (px_acons (px_op ov_plus3 (px_var 0 (pv 0)) px_int) px_anil)))
            · refine ds_frz 5 ?_
              refine ds_one ?_
              refine st_set (i := 2) ?_ ?_
              · exact nd
              · exact (px_op ov_plus3 (px_var 2 (pv 2)) (px_comp (N' := ["kind", "number"]) (CompSc.fit (sc := defScope s__law_melds) (N := ["most", "colours", "found", "colour", "first", "kinds", "number"]) ⟨rfl, by decide +kernel, by decide +kernel, by decide +kernel, rfl, by decide +kernel⟩) (by decide) rfl (ix_ls (px_var 5 (pv 5))) (tg_name 0) (sub_name (by decide)) (fun _ _ _ _ => (pg_name (i := 0) (show List.Nodup (["kind", "number"] : List Str) by decide +kernel) rfl (by first | exact Or.inl rfl | exact Or.inr rfl))) (fun _ _ _ _ => pf_one (pb_cmp ov_gt (px_callB cv_len rfl T.b_len bt_len (px_acons (px_var 0 (pv 0)) px_anil)) px_int)) (fun _ _ _ _ => (px_tup (by refine px_acons ?_ ?_; (exact (px_str (by decide +kernel))); (exact (px_acons (px_var 1 (pv 1)) (px_acons (px_callTy cv_tuple rfl T.b_tuple bt_tuple (px_acons (px_var 0 (pv 0)) px_anil)) px_anil))))))))
          · refine ds_one ?_
            exact st_ret (px_callB (cv_sortedA hu) rfl T.b_sorted bt_sorted (px_acons (px_var 2 (pv 2)) px_anil))
abbrev s__law_odd : Stmt := top 31
theorem sc__law_odd : FnScope ["most", "colours", "cell", "number", "colour", "some"] ["most", "colours", "cell"] (defScope s__law_odd) := ⟨rfl, rfl, rfl, by decide +kernel, rfl, by decide +kernel, by decide +kernel⟩
def F__law_odd : DS → M Out := (fSq (fPar 3 4 (aCons (eCb (gCall 3 (M__law_mix)) (aCons (eVar 2) (aCons (eC (.int 1)) (aCons (e2 gPlus3 (eVar 0) (eC (.int 2))) aNil)))) (aCons (e2 gSub (eCb (gCall 3 (M__law_mix)) (aCons (eVar 2) (aCons (eC (.int 2)) (aCons (e2 gPlus3 (eVar 1) (eC (.int 2))) aNil)))) (eC (.int 1))) aNil))) (fSq (fIf (fun δ => bd (e2 (gEq false) (eCb (gCall 3 (M__law_mix)) (aCons (eVar 2) (aCons (eC (.int 3)) (aCons (eC (.int 2)) aNil)))) (eC (.int 0)) δ) tru) (fRet (eTup (aCons (eC (.str "run")) (aCons (eVar 4) (aCons (eVar 3) (aCons (eCb (gCall 3 (M__law_mix)) (aCons (eVar 2) (aCons (eC (.int 4)) (aCons (e2 gPlus3 (eVar 0) (eC (.int 2))) aNil)))) aNil)))))) fNil) (fSq (fSet 5 (eLst (aCons (eTup (aCons (eC (.int 0)) (aCons (eC (.int 1)) (aCons (eC (.int 2)) aNil)))) (aCons (eTup (aCons (eC (.int 0)) (aCons (eC (.int 1)) aNil))) (aCons (eTup (aCons (eC (.int 0)) (aCons (eC (.int 2)) (aCons (eC (.int 1)) aNil)))) (aCons (eTup (aCons (eC (.int 0)) (aCons (eC (.int 0)) (aCons (eC (.int 1)) aNil)))) (aCons (eTup (aCons (eC (.int 0)) (aCons (eC (.int 1)) (aCons (eC (.int 2)) (aCons (eC (.int 3)) aNil))))) (aCons (eTup (aCons (eC (.int 1)) (aCons (eC (.int 2)) (aCons (eC (.int 3)) aNil)))) (aCons (eTup (aCons (eC (.int 0)) (aCons (eC (.int 1)) (aCons (eC (.int 3)) aNil)))) (aCons (eTup (aCons (eC (.int 0)) (aCons (eC (.int 1)) (aCons (eC (.int 2)) (aCons (eC (.int 4)) aNil))))) (aCons (eTup (aCons (eNeg (eC (.int 1))) (aCons (eC (.int 0)) (aCons (eC (.int 1)) aNil)))) (aCons (eTup aNil) aNil)))))))))))) (fRet (eTup (aCons (eC (.str "group")) (aCons (eVar 3) (aCons (e2 gIx (eVar 5) (eCb (gCall 3 (M__law_mix)) (aCons (eVar 2) (aCons (eC (.int 5)) (aCons (eC (.int 10)) aNil))))) aNil))))))))
def M__law_odd : List DV → M DV := mir ["most", "colours", "cell", "number", "colour", "some"] (F__law_odd)
theorem h__law_odd {C E_BadHouse E_BadLaying E_MeldError : Addr} (T : Tx K mg C) (R : Rx K mg E_BadHouse E_BadLaying E_MeldError) (D : Df K mg "_law_odd" s__law_odd ["most", "colours", "cell"])  (h__law_mix : Has P w K mg base 1 "_law_mix" 3 (M__law_mix)) : Has P w K mg base 2 "_law_odd" 3 (M__law_odd) := D.has fun f fd Fu => fn0 (k := 1) Fu sc__law_odd rfl fun cdv A outer s H E hr => by
  have hu := hu64 hr
  have nd := sc__law_odd.nd
  refine ds_cons ?_ ?_
  · refine st_par' (tr := fun _ _ _ => True) (ps_par rfl (by exact nd) rfl rfl (by decide) rfl rfl ?_ rfl)
    exact (px_acons (px_has (h__law_mix.mono (by decide)) hr (by refine px_acons ?_ ?_; (exact (px_var 2 (pv 2))); (exact (px_acons px_int (px_acons (px_op ov_plus3 (px_var 0 (pv 0)) px_int) px_anil))))) (px_acons (px_op ov_sub (px_has (h__law_mix.mono (by decide)) hr (by refine px_acons ?_ ?_; (exact (px_var 2 (pv 2))); (exact (px_acons px_int (px_acons (px_op ov_plus3 (px_var 1 (pv 1)) px_int) px_anil))))) px_int) px_anil))
  · refine ds_cons ?_ ?_
    · refine st_if ?_ ?_ ?_
      · exact (pb_cmp (ov_eq hu) (px_has (h__law_mix.mono (by decide)) hr (by refine px_acons ?_ ?_; (exact (px_var 2 (pv 2))); (exact (px_acons px_int (px_acons px_int px_anil))))) px_int)
      · refine ds_one ?_
        exact st_ret (px_tup (by refine px_acons ?_ ?_; (exact (px_str (by decide +kernel))); (exact (by refine px_acons ?_ ?_; (exact (px_var 4 (pv 4))); (exact (by refine px_acons ?_ ?_; (exact (px_var 3 (pv 3))); (exact (by refine px_acons ?_ ?_; (exact (px_has (h__law_mix.mono (by decide)) hr (by refine px_acons ?_ ?_; (exact (px_var 2 (pv 2))); (exact (px_acons px_int (px_acons (px_op ov_plus3 (px_var 0 (pv 0)) px_int) px_anil)))))); (exact px_anil)))))))))
      · exact ds_nil
    · refine ds_cons ?_ ?_
      · refine st_set (i := 5) ?_ ?_
        · exact nd
        · exact (by refine px_lst ?_; (exact (by refine px_acons ?_ ?_; (exact (px_tup (by refine px_acons ?_ ?_; (exact px_int); (exact (px_acons px_int (px_acons px_int px_anil)))))); (exact (by refine px_acons ?_ ?_; (exact (px_tup (px_acons px_int (px_acons px_int px_anil)))); (exact (by refine px_acons ?_ ?_; (exact (px_tup (by refine px_acons ?_ ?_; (exact px_int); (exact (px_acons px_int (px_acons px_int px_anil)))))); (exact (by refine px_acons ?_ ?_; (exact (px_tup (by refine px_acons ?_ ?_; (exact px_int); (exact (px_acons px_int (px_acons px_int px_anil)))))); (exact (by refine px_acons ?_ ?_; (exact (px_tup (by refine px_acons ?_ ?_; (exact px_int); (exact (by refine px_acons ?_ ?_; (exact px_int); (exact (by refine px_acons ?_ ?_; (exact px_int); (exact (by refine px_acons ?_ ?_; (exact px_int); (exact px_anil)))))))))); (exact (by refine px_acons ?_ ?_; (exact (px_tup (by refine px_acons ?_ ?_; (exact px_int); (exact (px_acons px_int (px_acons px_int px_anil)))))); (exact (by refine px_acons ?_ ?_; (exact (px_tup (by refine px_acons ?_ ?_; (exact px_int); (exact (px_acons px_int (px_acons px_int px_anil)))))); (exact (by refine px_acons ?_ ?_; (exact (px_tup (by refine px_acons ?_ ?_; (exact px_int); (exact (by refine px_acons ?_ ?_; (exact px_int); (exact (by refine px_acons ?_ ?_; (exact px_int); (exact (by refine px_acons ?_ ?_; (exact px_int); (exact px_anil)))))))))); (exact (by refine px_acons ?_ ?_; (exact (px_tup (by refine px_acons ?_ ?_; (exact (px_neg px_int)); (exact (px_acons px_int (px_acons px_int px_anil)))))); (exact (by refine px_acons ?_ ?_; (exact (px_tup px_anil)); (exact px_anil))))))))))))))))))))))
      · refine ds_one ?_
        exact st_ret (px_tup (by refine px_acons ?_ ?_; (exact (px_str (by decide +kernel))); (exact (px_acons (px_var 3 (pv 3)) (px_acons (px_ix (px_var 5 (pv 5)) (px_has (h__law_mix.mono (by decide)) hr (by refine px_acons ?_ ?_; (exact (px_var 2 (pv 2))); (exact (px_acons px_int (px_acons px_int px_anil)))))) px_anil)))))
abbrev s__law_met : Stmt := top 32
theorem sc__law_met : FnScope ["house", "meld", "e"] ["house", "meld"] (defScope s__law_met) := ⟨rfl, rfl, rfl, by decide +kernel, rfl, by decide +kernel, by decide +kernel⟩
def F__law_met (C : Addr) (E_BadLaying : Addr) : DS → M Out := (fTry (fRet (eCb (gCallX 2 (M_tiles_of C E_BadLaying)) (aCons (eVar 0) (aCons (eVar 1) aNil)))) E_BadLaying true)
def M__law_met (C : Addr) (E_BadLaying : Addr) : List DV → M DV := mir ["house", "meld", "e"] (F__law_met C E_BadLaying)
theorem h__law_met {C E_BadHouse E_BadLaying E_MeldError : Addr} (T : Tx K mg C) (R : Rx K mg E_BadHouse E_BadLaying E_MeldError) (D : Df K mg "_law_met" s__law_met ["house", "meld"])  (h_tiles_of : HasX P w K mg base 4 "tiles_of" 2 (M_tiles_of C E_BadLaying)) : Has P w K mg base 5 "_law_met" 2 (M__law_met C E_BadLaying) := D.has fun f fd Fu => fn0 (k := 4) Fu sc__law_met rfl fun cdv A outer s H E hr => by
  have hu := hu64 hr
  have nd := sc__law_met.nd
  refine ds_one ?_
  refine st_try (i := 2) (C := E_BadLaying) R.x_BadLaying ?_ ?_ ?_
  · exact nd
  · intro pn W E' pass
    refine ds_one ?_
    exact st_ret (by refine px_hasX (h_tiles_of.mono (by decide)) hr pass ?_; exact (px_acons (px_var 0 (pv 0)) (px_acons (px_var 1 (pv 1)) px_anil)))
  · intro e pn W oe hc hp
    exact pe_isO (List.mem_append_right _ hp) hc R.q_BadLaying_MeldError T.b_isinstance R.m_MeldError (pv 2)
abbrev s_law : Stmt := top 33
theorem sc_law : FnScope ["script", "most", "colours", "house", "known", "some", "meld", "found", "lap"] ["script"] (defScope s_law) := ⟨rfl, rfl, rfl, by decide +kernel, rfl, by decide +kernel, by decide +kernel⟩
noncomputable def F_law (K : PySem.W.Frag) (C : Addr) (E_BadHouse : Addr) (E_BadLaying : Addr) : DS → M Out := (fSq (fTg (sTup 2 (sCons (sName 1) (sCons (sName 2) sNil))) (eCb (gCall 1 (M__law_house_by K)) (aCons (eVar 0) aNil))) (fSq (fSet 3 (eMkH C E_BadHouse (aCons (eVar 1) (aCons (eVar 2) aNil)))) (fSq (fSet 4 (eCb (gCall 2 (M__law_melds)) (aCons (eVar 1) (aCons (eVar 2) aNil)))) (fSq (fSet 5 (eComp 1 [1, 2, 0] (iR1 (aCons (eC (.int 8)) aNil)) (sName 0) bYes (eCb (gCall 3 (M__law_odd)) (aCons (eVar 1) (aCons (eVar 2) (aCons (eCb (gCall 2 (M__law_cell_at K)) (aCons (eVar 3) (aCons (e2 gPlus3 (eC (.int 2)) (eVar 0)) aNil))) aNil)))))) (fSq (fIf (fun δ => bd (e2 gGt (eCb gLen (aCons (eVar 4) aNil)) (eC (.int 0)) δ) tru) (fSet 5 (e2 gPlus3 (eVar 5) (eComp 1 [4, 0] (iR1 (aCons (eC (.int 4)) aNil)) (sName 0) bYes (e2 gIx (eVar 1) (e2 gMod (eCb (gCall 2 (M__law_cell_at K)) (aCons (eVar 2) (aCons (e2 gPlus3 (eC (.int 10)) (eVar 0)) aNil))) (eCb gLen (aCons (eVar 1) aNil))))))) fNil) (fun δ => (fSq (fFor (iLs (eVar 5)) (sName 6) (fSq (fIf (bNot (fun δ => bd ((eCb (gCall 2 (M__law_told)) (aCons (eCb (gCall 2 (M_is_meld C)) (aCons (eVar 3) (aCons (eVar 6) aNil))) (aCons (e2 (gIn false) (eVar 6) (eVar 4)) aNil))) δ) tru)) (fRet (eC (.bool false))) fNil) (fSq (fSet 7 (eCb (gCall 2 (M__law_met C E_BadLaying)) (aCons (eVar 3) (aCons (eVar 6) aNil)))) (fIf (fun δ => bd (e2 (gIn true) (eVar 6) (eVar 4) δ) tru) (fIf (fun δ => bd (e2 (gIs true) (eVar 7) (eC (.bool true)) δ) tru) (fRet (eC (.bool false))) fNil) (fIf (bOr (bNot (fun δ => bd ((eIs "list" (eVar 7)) δ) tru)) (fun δ => bd (e2 (gEq true) (eVar 7) (eCb (gCall 1 (M__law_tiles)) (aCons (eVar 6) aNil)) δ) tru)) (fRet (eC (.bool false))) (fApp 7 (eTup (aCons (eC (.int 9)) (aCons (eC (.int 9)) aNil))))))))) (fSq (fFor (iR1 (aCons (eC (.int 2)) aNil)) (sName 8) (fSq (fSet 7 (eCb (gCall 1 (M_melds C)) (aCons (eVar 3) aNil))) (fSq (fIf (bOr (bNot (fun δ => bd ((eIs "list" (eVar 7)) δ) tru)) (bOr (bNot (fun δ => bd ((eCb gAll (aCons (eComp 1 [] (iLa (eVar 7)) (sName 0) bYes (eIs "tuple" (eVar 0))) aNil)) δ) tru)) (fun δ => bd (e2 (gEq true) (eVar 7) (eVar 4) δ) tru))) (fRet (eC (.bool false))) fNil) (fApp 7 (eTup (aCons (eC (.str "run")) (aCons (eC (.int 0)) (aCons (eC (.int 1)) (aCons (eC (.int 3)) aNil))))))))) (fRet (eC (.bool true))))) (frz 5 δ)))))))
noncomputable def M_law (K : PySem.W.Frag) (C : Addr) (E_BadHouse : Addr) (E_BadLaying : Addr) : List DV → M DV := mir ["script", "most", "colours", "house", "known", "some", "meld", "found", "lap"] (F_law K C E_BadHouse E_BadLaying)
theorem ok_law {C E_BadHouse E_BadLaying E_MeldError : Addr} (T : Tx K mg C) (R : Rx K mg E_BadHouse E_BadLaying E_MeldError) {f : Addr} {fd : FuncData} (Fu : Fun K "law" "law" s_law f fd) (h_House : HsK P w K mg base C E_BadHouse) (h__law_house_by : Has P w K mg base 2 "_law_house_by" 1 (M__law_house_by K)) (h__law_melds : Has P w K mg base 1 "_law_melds" 2 (M__law_melds)) (h__law_cell_at : Has P w K mg base 1 "_law_cell_at" 2 (M__law_cell_at K)) (h__law_odd : Has P w K mg base 2 "_law_odd" 3 (M__law_odd)) (h_is_meld : Has P w K mg base 3 "is_meld" 2 (M_is_meld C)) (h__law_told : Has P w K mg base 1 "_law_told" 2 (M__law_told)) (h__law_met : Has P w K mg base 5 "_law_met" 2 (M__law_met C E_BadLaying)) (h__law_tiles : Has P w K mg base 1 "_law_tiles" 1 (M__law_tiles)) (h_melds : Has P w K mg base 3 "melds" 1 (M_melds C)) : FnOk P w K mg base CX0 6 f fd ["script"] (sp0 1 (M_law K C E_BadHouse E_BadLaying)) := fn0 (k := 5) Fu sc_law rfl fun cdv A outer s H E hr => by
  have hu := hu64 hr
  have nd := sc_law.nd
  refine ds_cons ?_ ?_
  · refine st_asg ?_ (pg_tup rfl (pgs_cons (pg_name (i := 1) (by exact nd) rfl (by first | exact Or.inl rfl | exact Or.inr rfl)) (pgs_cons (pg_name (i := 2) (by exact nd) rfl (by first | exact Or.inl rfl | exact Or.inr rfl)) pgs_nil))) (tg_tup (tg_cons (tg_name 1) (tg_cons (tg_name 2) tg_nil)))
    exact (px_has (h__law_house_by.mono (by decide)) hr (px_acons (px_var 0 (pv 0)) px_anil))
  · refine ds_cons ?_ ?_
    · refine st_set (i := 3) ?_ ?_
      · exact nd
      · exact (by refine px_make h_House (by decide +kernel) (hr.mono (by decide)) passR0 ?_; exact (px_acons (px_var 1 (pv 1)) (px_acons (px_var 2 (pv 2)) px_anil)))
    · refine ds_cons ?_ ?_
      · refine st_set (i := 4) ?_ ?_
        · exact nd
        · exact (px_has (h__law_melds.mono (by decide)) hr (px_acons (px_var 1 (pv 1)) (px_acons (px_var 2 (pv 2)) px_anil)))
      · refine ds_cons ?_ ?_
        · refine st_setC (i := 5) (N' := ["k", "most", "colours", "script"]) (CompSc.fit (sc := defScope s_law) (N := ["script", "most", "colours", "house", "known", "some", "meld", "found", "lap"]) ⟨rfl, by decide +kernel, by decide +kernel, by decide +kernel, rfl, by decide +kernel⟩) (by decide) rfl (by exact nd) (ix_r1 T.b_range (px_acons px_int px_anil)) (tg_name 0) (sub_name (by decide)) (fun _ _ _ _ => (pg_name (i := 0) (show List.Nodup (["k", "most", "colours", "script"] : List Str) by decide +kernel) rfl (by first | exact Or.inl rfl | exact Or.inr rfl))) (fun _ _ _ _ => pf_yes) (fun _ _ _ _ => (px_has (h__law_odd.mono (by decide)) hr (by refine px_acons ?_ ?_; (exact (px_var 1 (pv 1))); (exact (px_acons (px_var 2 (pv 2)) (px_acons (px_has (h__law_cell_at.mono (by decide)) hr (px_acons (px_var 3 (pv 3)) (px_acons (px_op ov_plus3 px_int (px_var 0 (pv 0))) px_anil))) px_anil))))))
        · refine ds_cons ?_ ?_
          · refine st_if ?_ ?_ ?_
            · exact (pb_cmp ov_gt (px_callB cv_len rfl T.b_len bt_len (px_acons (px_var 4 (pv 4)) px_anil)) px_int)
            · refine ds_one ?_
              refine st_set (i := 5) ?_ ?_
              · exact nd
              · exact (px_op ov_plus3 (px_var 5 (pv 5)) (px_comp (N' := ["k", "known", "script"]) (CompSc.fit (sc := defScope s_law) (N := ["script", "most", "colours", "house", "known", "some", "meld", "found", "lap"]) ⟨rfl, by decide +kernel, by decide +kernel, by decide +kernel, rfl, by decide +kernel⟩) (by decide) rfl (ix_r1 T.b_range (px_acons px_int px_anil)) (tg_name 0) (sub_name (by decide)) (fun _ _ _ _ => (pg_name (i := 0) (show List.Nodup (["k", "known", "script"] : List Str) by decide +kernel) rfl (by first | exact Or.inl rfl | exact Or.inr rfl))) (fun _ _ _ _ => pf_yes) (fun _ _ _ _ => (px_ix (px_var 1 (pv 1)) (px_op ov_mod (px_has (h__law_cell_at.mono (by decide)) hr (px_acons (px_var 2 (pv 2)) (px_acons (px_op ov_plus3 px_int (px_var 0 (pv 0))) px_anil))) (px_callB cv_len rfl T.b_len bt_len (px_acons (px_var 1 (pv 1)) px_anil)))))))
            · exact ds_nil
          · refine ds_frz 5 ?_
            refine ds_cons ?_ ?_
            · refine st_for PassesOwn.never rfl ?_ (pg_name (i := 6) (by exact nd) rfl (by first | exact Or.inl rfl | exact Or.inr rfl)) (tg_name 6) ?_
              · exact (ix_ls (px_var 5 (pv 5)))
              · refine ds_cons ?_ ?_
                · refine st_if ?_ ?_ ?_
                  · exact (pb_not (pb_val (px_has (h__law_told.mono (by decide)) hr (px_acons (px_has (h_is_meld.mono (by decide)) hr (px_acons (px_var 3 (pv 3)) (px_acons (px_var 6 (pv 6)) px_anil))) (px_acons (px_cmp (ov_in hu) (px_var 6 (pv 6)) (px_var 4 (pv 4))) px_anil)))))
                  · refine ds_one ?_
                    exact st_ret px_bl
                  · exact ds_nil
                · refine ds_cons ?_ ?_
                  · refine st_set (i := 7) ?_ ?_
                    · exact nd
                    · exact (px_has (h__law_met.mono (by decide)) hr (px_acons (px_var 3 (pv 3)) (px_acons (px_var 6 (pv 6)) px_anil)))
                  · refine ds_one ?_
                    refine st_if ?_ ?_ ?_
                    · exact (pb_cmp (ov_notin hu) (px_var 6 (pv 6)) (px_var 4 (pv 4)))
                    · refine ds_one ?_
                      refine st_if ?_ ?_ ?_
                      · exact (pb_cmp ov_isnot (px_var 7 (pv 7)) px_bl)
                      · refine ds_one ?_
                        exact st_ret px_bl
                      · exact ds_nil
                    · refine ds_one ?_
                      refine st_if ?_ ?_ ?_
                      · exact (PWb.pb (pb_or (pb_not (pb_val (px_is (by decide) T.b_isinstance T.b_list bt_list (px_var 7 (pv 7))))) (pb_or1 (pb_cmp (ov_ne hu) (px_var 7 (pv 7)) (px_has (h__law_tiles.mono (by decide)) hr (px_acons (px_var 6 (pv 6)) px_anil))))))
                      · refine ds_one ?_
                        exact st_ret px_bl
                      · refine ds_one ?_
                        refine st_app (pv 7) ?_
                        exact (px_tup (px_acons px_int (px_acons px_int px_anil)))
            · refine ds_cons ?_ ?_
              · refine st_for PassesOwn.never rfl ?_ (pg_name (i := 8) (by exact nd) rfl (by first | exact Or.inl rfl | exact Or.inr rfl)) (tg_name 8) ?_
                · exact (ix_r1 T.b_range (px_acons px_int px_anil))
                · refine ds_cons ?_ ?_
                  · refine st_set (i := 7) ?_ ?_
                    · exact nd
                    · exact (px_has (h_melds.mono (by decide)) hr (px_acons (px_var 3 (pv 3)) px_anil))
                  · refine ds_cons ?_ ?_
                    · refine st_if ?_ ?_ ?_
                      · exact (PWb.pb (pb_or (pb_not (pb_val (px_is (by decide) T.b_isinstance T.b_list bt_list (px_var 7 (pv 7))))) (pb_or (pb_not (pb_val (px_callB (cv_all rfl) rfl T.b_all bt_all (px_acons (px_compO (N' := ["meld"]) (CompSc.fit (sc := defScope s_law) (N := ["script", "most", "colours", "house", "known", "some", "meld", "found", "lap"]) ⟨rfl, by decide +kernel, by decide +kernel, by decide +kernel, rfl, by decide +kernel⟩) (by decide) rfl (ix_la (px_var 7 (pv 7))) (tg_name 0) (sub_name (by decide)) (fun _ _ _ _ => (pg_name (i := 0) (show List.Nodup (["meld"] : List Str) by decide +kernel) rfl (by first | exact Or.inl rfl | exact Or.inr rfl))) (fun _ _ _ _ => pf_yes) (fun _ _ _ _ => (px_is (by decide) T.b_isinstance T.b_tuple bt_tuple (px_var 0 (pv 0))))) px_anil)))) (pb_or1 (pb_cmp (ov_ne hu) (px_var 7 (pv 7)) (px_var 4 (pv 4)))))))
                      · refine ds_one ?_
                        exact st_ret px_bl
                      · exact ds_nil
                    · refine ds_one ?_
                      refine st_app (pv 7) ?_
                      exact (px_tup (by refine px_acons ?_ ?_; (exact (px_str (by decide +kernel))); (exact (by refine px_acons ?_ ?_; (exact px_int); (exact (by refine px_acons ?_ ?_; (exact px_int); (exact (by refine px_acons ?_ ?_; (exact px_int); (exact px_anil)))))))))
              · refine ds_one ?_
                exact st_ret px_bl
end
end K2
set_option Elab.async false
set_option linter.all false
set_option maxRecDepth 100000
set_option maxHeartbeats 1000000
set_option autoImplicit false
namespace K2
open PySem PySem.Spec L2 L3 LW
def ten : List (List Int) := [[0, 1, 2], [0, 1], [0, 2, 1], [0, 0, 1], [0, 1, 2, 3], [1, 2, 3], [0, 1, 3], [0, 1, 2, 4], [-1, 0, 1], []]
def P2 (c : Nat) (x : D) : Prop := (∃ col f n : Int, x = rn col f n ∧ -1000 ≤ n ∧ n ≤ 1000) ∨ (∃ (n : Int) (k : List Int), x = gp n k ∧ k.length ≤ 900 ∧ colOk c k = decide (k ∈ chA c))
theorem ten_ok : ∀ c ∈ [1, 2, 3, 4], ∀ k ∈ ten, k.length ≤ 900 ∧ colOk c k = decide (k ∈ chA c) := by decide +kernel
theorem chA_ok : ∀ c ∈ [1, 2, 3, 4], ∀ k ∈ chA c, k.length ≤ 900 ∧ colOk c k = decide (k ∈ chA c) := by decide +kernel
theorem in4 {c : Nat} (h1 : 1 ≤ c) (h4 : c ≤ 4) : c ∈ [1, 2, 3, 4] := by simp; omega
theorem m_odd {m c : Nat} (h1 : 1 ≤ c) (h4 : c ≤ 4) (hm : m ≤ 13) (cell : Int) : ∃ x, M__law_odd [.d (.int (m : Int)), .d (.int (c : Int)), .d (.int cell)] = rt (.d x) ∧ P2 c x := by
  obtain ⟨r1, e1, a1, b1⟩ := mixE (δ := [some (.d (.int (m : Int))), some (.d (.int (c : Int))), some (.d (.int cell)), none, none, none]) (fa := eVar 2) (fb := eC (.int 1)) (fc := e2 gPlus3 (eVar 0) (eC (.int 2))) (cell := cell) (k := 1) (many := (m : Int) + 2) rfl rfl ((e2_is (x := .d (.int (m : Int))) (y := .d (.int 2)) rfl rfl).trans (gPlus3_int _ _)) (by omega)
  obtain ⟨r2, e2', a2, b2⟩ := mixE (δ := [some (.d (.int (m : Int))), some (.d (.int (c : Int))), some (.d (.int cell)), none, none, none]) (fa := eVar 2) (fb := eC (.int 2)) (fc := e2 gPlus3 (eVar 1) (eC (.int 2))) (cell := cell) (k := 2) (many := (c : Int) + 2) rfl rfl ((e2_is (x := .d (.int (c : Int))) (y := .d (.int 2)) rfl rfl).trans (gPlus3_int _ _)) (by omega)
  have eP := par_is (i := 3) (j := 4) (a2_is e1 ((e2_is (y := .d (.int 1)) (fb := eC (.int 1)) e2' rfl).trans (gSub_int _ _)))
  obtain ⟨r3, e3, a3, b3⟩ := mixE (δ := [some (.d (.int (m : Int))), some (.d (.int (c : Int))), some (.d (.int cell)), some (.d (.int r1)), some (.d (.int (r2 - 1))), none]) (fa := eVar 2) (fb := eC (.int 3)) (fc := eC (.int 2)) (cell := cell) (k := 3) (many := 2) rfl rfl rfl (by decide)
  obtain ⟨r4, e4, a4, b4⟩ := mixE (δ := [some (.d (.int (m : Int))), some (.d (.int (c : Int))), some (.d (.int cell)), some (.d (.int r1)), some (.d (.int (r2 - 1))), none]) (fa := eVar 2) (fb := eC (.int 4)) (fc := e2 gPlus3 (eVar 0) (eC (.int 2))) (cell := cell) (k := 4) (many := (m : Int) + 2) rfl rfl ((e2_is (x := .d (.int (m : Int))) (y := .d (.int 2)) rfl rfl).trans (gPlus3_int _ _)) (by omega)
  by_cases h3 : r3 = 0
  · refine ⟨rn (r2 - 1) r1 r4, ?_, .inl ⟨_, _, _, rfl, by omega, by omega⟩⟩
    unfold M__law_odd
    refine mir_is (x := .d (rn (r2 - 1) r1 r4)) ?_
    unfold F__law_odd
    refine sqN (δ' := [some (.d (.int (m : Int))), some (.d (.int (c : Int))), some (.d (.int cell)), some (.d (.int r1)), some (.d (.int (r2 - 1))), none]) eP ?_
    refine sq_rt (ifY (tst_is ((e2_is (y := .d (.int 0)) e3 rfl).trans ?_)) (ret_is (t4_is rfl rfl rfl e4)))
    rw [gEq_int, h3]; rfl
  · obtain ⟨r5, e5, a5, b5⟩ := mixE (δ := [some (.d (.int (m : Int))), some (.d (.int (c : Int))), some (.d (.int cell)), some (.d (.int r1)), some (.d (.int (r2 - 1))), some (.own (ten.map tp))]) (fa := eVar 2) (fb := eC (.int 5)) (fc := eC (.int 10)) (cell := cell) (k := 5) (many := 10) rfl rfl rfl (by decide)
    obtain ⟨n, rfl⟩ := Int.eq_ofNat_of_zero_le a5
    have hn : n < ten.length := by have : ten.length = 10 := rfl; omega
    have hk := ten_ok c (in4 h1 h4) (ten.getD n []) (by
      have e : ten.getD n [] = ten[n] := by simp [hn]
      rw [e]; exact List.getElem_mem hn)
    refine ⟨gp r1 (ten.getD n []), ?_, .inr ⟨_, _, rfl, hk.1, hk.2⟩⟩
    unfold M__law_odd
    refine mir_is (x := .d (gp r1 (ten.getD n []))) ?_
    unfold F__law_odd
    refine sqN (δ' := [some (.d (.int (m : Int))), some (.d (.int (c : Int))), some (.d (.int cell)), some (.d (.int r1)), some (.d (.int (r2 - 1))), none]) eP ?_
    refine sqN (ifF (tst_is ((e2_is (y := .d (.int 0)) e3 rfl).trans ?_)) rfl) ?_
    · rw [gEq_int, beq_eq_false_iff_ne.mpr h3]
    refine sqN (δ' := [some (.d (.int (m : Int))), some (.d (.int (c : Int))), some (.d (.int cell)), some (.d (.int r1)), some (.d (.int (r2 - 1))), some (.own (ten.map tp))]) (setN (x := .new (ten.map tp)) (y := .own (ten.map tp)) rfl rfl rfl) ?_
    exact ret_is (t3_is rfl rfl ((e2_is (x := .own (ten.map tp)) rfl e5).trans (gIx_own (atI_map' hn []))))
theorem P2_known {m c : Nat} (hm : m ≤ 13) (h1 : 1 ≤ c) (h4 : c ≤ 4) {x : D} (h : x ∈ knownL m c) : P2 c x := by
  unfold knownL at h
  rcases List.mem_append.mp h with q | q
  · obtain ⟨n0, k, hk, hn, rfl⟩ := mem_groups q
    have := chA_ok c (in4 h1 h4) k hk
    exact .inr ⟨_, _, rfl, this.1, this.2⟩
  · obtain ⟨col, f0, s, _, _, hs, rfl⟩ := mem_runs q
    exact .inl ⟨_, _, _, rfl, by omega, by omega⟩
theorem facts (C E : Addr) {m c : Nat} {x : D} (h : P2 c x) : ∃ (b : Bool) (qs : List (Int × Int)), M_is_meld C [hs C m c, .d x] = rt (.d (.bool b)) ∧ ((knownL m c).any fun z => PyData.eqv z x) = b ∧ M_tiles_of C E [hs C m c, .d x] = (if b = true then rt (.new (qs.map pr)) else some (.error (.ref E))) ∧ M__law_tiles [.d x] = rt (.new (qs.map pr)) ∧ x.depth ≤ 60 ∧ qs.length ≤ 1000 := by
  rcases h with ⟨col, f, n, rfl, g1, g2⟩ | ⟨n, k, rfl, g1, g2⟩
  · have ht : tilesR col f n = ((List.range n.toNat).map fun (k : Nat) => (f + (k : Int), col)).map pr := by unfold tilesR; rw [List.map_map]; rfl
    refine ⟨runOk m c col f n, (List.range n.toNat).map fun (k : Nat) => (f + (k : Int), col), m_meld_run C m c col f n, any_known_rn m c col f n, ?_, ?_, Nat.le_trans (dp_rn col f n) (by decide), by simp; omega⟩
    · rw [m_tiles_run C E m c col f n g1 g2, ht]
    · rw [m_law_tiles_run col f n g1 g2, ht]
  · have ht : tilesG n k = (k.map fun x => (n, x)).map pr := by unfold tilesG; rw [List.map_map]; rfl
    refine ⟨grpOk m c n k, k.map fun x => (n, x), m_meld_grp C m c n k g1, (any_known_gp m c n k).trans (grp_col m c n k g2).symm, ?_, ?_, Nat.le_trans (dp_gp n k) (by decide), by simp; omega⟩
    · rw [m_tiles_grp C E m c n k g1, ht]
    · rw [m_law_tiles_grp n k g1, ht]
theorem met (C E : Addr) {m c : Int} {x : D} {b : Bool} {ts : List D} (h : M_tiles_of C E [hs C m c, .d x] = (if b = true then rt (.new ts) else some (.error (.ref E)))) : M__law_met C E [hs C m c, .d x] = rt (if b = true then .new ts else .d (.bool true)) := by
  unfold M__law_met
  cases b with
  | true => exact mir_is (x := .new ts) (try_rt (ret_is (callX_is (a2_is rfl rfl) rfl rfl h)))
  | false => exact mir_is (x := .d (.bool true)) (try_er (ret_er (callX_is (a2_is rfl rfl) rfl rfl h)))
theorem eqvAll_self : ∀ {xs : List D}, (∀ x ∈ xs, PyData.eqv x x = true) → PyData.eqvAll xs xs = true
  | [], _ => rfl
  | x :: xs, h => by
    rw [PyData.eqvAll, h x List.mem_cons_self, eqvAll_self fun y hy => h y (List.mem_cons_of_mem _ hy)]; rfl
theorem depthAll_le : ∀ {xs : List D}, (∀ x ∈ xs, x.depth ≤ 50) → PyData.depthAll xs ≤ 50
  | [], _ => Nat.zero_le _
  | x :: xs, h => by
    have h1 := h x List.mem_cons_self
    have h2 := depthAll_le fun y hy => h y (List.mem_cons_of_mem _ hy)
    rw [PyData.depthAll]; omega
theorem isM_self {x : D} (h : IsM x) : PyData.eqv x x = true := by
  rcases h with ⟨c, f, n, rfl⟩ | ⟨n, k, rfl⟩
  · rw [eqv_rn]; simp
  · rw [eqv_gp]; simp
theorem isM_depth {x : D} (h : IsM x) : x.depth ≤ 50 := by
  rcases h with ⟨c, f, n, rfl⟩ | ⟨n, k, rfl⟩
  · exact dp_rn c f n
  · exact dp_gp n k
theorem isM_ty {x : D} (h : IsM x) : tyD x = some "tuple" := by
  rcases h with ⟨c, f, n, rfl⟩ | ⟨n, k, rfl⟩ <;> rfl
def lδ (K : PySem.W.Frag) (ns : List Int) (m c : Nat) (C : Addr) (ss : List D) (x6 x7 x8 : Option DV) : DS := [some (.scr K ns), some (.d (.int (m : Int))), some (.d (.int (c : Int))), some (hs C m c), some (.own (knownL m c)), some (.d (.list ss)), x6, x7, x8]
theorem gIn_known {m c : Nat} {x : D} {b : Bool} (neg : Bool) (h : ((knownL m c).any fun z => PyData.eqv z x) = b) (hd : x.depth ≤ 60) : gIn neg (.d x) (.own (knownL m c)) = rt (.d (.bool (if neg = true then !b else b))) := by
  unfold gIn
  simp only [asQ_d, asQ_own]
  rw [if_pos hd, h]
theorem math (K : PySem.W.Frag) (C E_BadHouse E_BadLaying : Addr) (ns : List Int) (_ : ns.length ≤ 63) : M_law K C E_BadHouse E_BadLaying [.scr K ns] = rt (.d (.bool true)) := by
  obtain ⟨m', c', eh, g1, g2, g3, g4⟩ := m_house K ns
  obtain ⟨m, rfl⟩ := Int.eq_ofNat_of_zero_le (show 0 ≤ m' by omega)
  obtain ⟨c, rfl⟩ := Int.eq_ofNat_of_zero_le (show 0 ≤ c' by omega)
  have hm : m ≤ 13 := by omega
  have h1 : 1 ≤ c := by omega
  have h4 : c ≤ 4 := by omega
  have lk : (knownL m c).length ≤ 1000 := by
    have l1 := groupsL_len (chA_len c) m
    have l2 := runsL_len m c hm
    unfold knownL
    rw [List.length_append]
    omega
  unfold M_law
  refine mir_is (x := .d (.bool true)) ?_
  unfold F_law
  refine sqN (δ' := [some (.scr K ns), some (.d (.int (m : Int))), some (.d (.int (c : Int))), none, none, none, none, none, none]) (tg_is (x := .d (.tuple [.int (m : Int), .int (c : Int)])) (call_is (a1_is rfl) rfl rfl eh) rfl rfl) ?_
  refine sqN (δ' := [some (.scr K ns), some (.d (.int (m : Int))), some (.d (.int (c : Int))), some (hs C m c), none, none, none, none, none]) (setN (mkE (m := (m : Int)) (c := (c : Int)) rfl rfl (by omega) (by omega) (by omega) (by omega)) rfl rfl) ?_
  refine sqN (δ' := [some (.scr K ns), some (.d (.int (m : Int))), some (.d (.int (c : Int))), some (hs C m c), some (.own (knownL m c)), none, none, none, none]) (setN (x := .new (knownL m c)) (call_is (a2_is (x := .d (.int (m : Int))) (y := .d (.int (c : Int))) rfl rfl) rfl rfl (m_law_melds m c hm h1 h4)) rfl rfl) ?_
  refine setCompN (as := List.range 8) (fa := fun (k : Nat) => PyData.int (k : Int)) (P := P2 c) ((iR1_is (j := 8) (a1_is rfl) (by decide) (by decide)).trans (by rw [runI_zero]; rfl)) (by simp) (fun k hk => ?_) fun ys hys ly => ?_
  · obtain ⟨x, ex, px⟩ := m_odd h1 h4 hm (cellAt ns (2 + (k : Int)))
    exact ⟨x, call_is (a3_is (x := .d (.int (m : Int))) (y := .d (.int (c : Int))) rfl rfl (cellE (K := K) (ns := ns) rfl ((e2_is (x := .d (.int 2)) (y := .d (.int (k : Int))) rfl rfl).trans (gPlus3_int _ _)) (by omega))) rfl rfl ex, px⟩
  refine ifCatN (as := List.range 4) (fa := fun (k : Nat) => PyData.int (k : Int)) (P := P2 c) (b := decide (0 < ((knownL m c).length : Int))) (xs := ys) (tst_is ((e2_is (x := .d (.int ((knownL m c).length : Int))) (y := .d (.int 0)) (cb_is (a1_is (x := .own (knownL m c)) rfl)) rfl).trans ?_)) rfl rfl ((iR1_is (j := 4) (a1_is rfl) (by decide) (by decide)).trans (by rw [runI_zero]; rfl)) (by rw [ly]; simp) (fun hb k hk => ?_) fun zs hzs lz => ?_
  · exact gGt_int _ _
  · have hpos : 0 < ((knownL m c).length : Int) := of_decide_eq_true hb
    have i0 := Int.emod_nonneg (cellAt ns (10 + (k : Int))) (show ((knownL m c).length : Int) ≠ 0 by omega)
    have i1 := Int.emod_lt_of_pos (cellAt ns (10 + (k : Int))) hpos
    obtain ⟨n, hn⟩ := Int.eq_ofNat_of_zero_le i0
    have hn' : n < (knownL m c).length := by omega
    refine ⟨(knownL m c).getD n .none, (e2_is (x := .own (knownL m c)) (y := .d (.int (n : Int))) rfl ?_).trans (gIx_own (atI_nn hn' .none)), P2_known hm h1 h4 ?_⟩
    · refine (e2_is (x := .d (.int (cellAt ns (10 + (k : Int))))) (y := .d (.int ((knownL m c).length : Int))) (cellE (K := K) (ns := ns) rfl ((e2_is (x := .d (.int 10)) (y := .d (.int (k : Int))) rfl rfl).trans (gPlus3_int _ _)) (by omega)) (cb_is (a1_is (x := .own (knownL m c)) rfl))).trans ?_
      rw [gMod_int (by omega), hn]
    · have e : (knownL m c).getD n .none = (knownL m c)[n] := by simp [hn']
      rw [e]; exact List.getElem_mem hn'
  have hss : ∀ x ∈ ys ++ zs, P2 c x := fun x hx => (List.mem_append.mp hx).elim (hys x) (hzs x)
  generalize ys ++ zs = ss at hss
  change fSq _ _ (lδ K ns m c C ss none none none) = _
  refine forN (I := fun δ => ∃ x6 x7, δ = lδ K ns m c C ss x6 x7 none) (xs := ss) (iLs_is rfl) ⟨none, none, rfl⟩ (fun x hx δ hI => ?_) fun δ hI => ?_
  · obtain ⟨x6, x7, rfl⟩ := hI
    obtain ⟨b, qs, f1, f2, f3, f4, f5, f6⟩ := facts C E_BadLaying (m := m) (hss x hx)
    have f7 := met C E_BadLaying f3
    have hn : ∀ neg, gIn neg (.d x) (.own (knownL m c)) = rt (.d (.bool (if neg = true then !b else b))) := fun neg => gIn_known neg f2 f5
    cases b with
    | false =>
      refine ⟨lδ K ns m c C ss (some (.d x)) (some (.d (.bool true))) none, ?_, _, _, rfl⟩
      refine sqN (δ' := lδ K ns m c C ss (some (.d x)) x7 none) (ifF (not_is' (tst_is (call_is (a2_is (call_is (a2_is (x := hs C m c) (y := .d x) rfl rfl) rfl rfl f1) ((e2_is (x := .d x) (y := .own (knownL m c)) rfl rfl).trans (hn false))) rfl rfl (m_told' false))) rfl) rfl) ?_
      refine sqN (δ' := lδ K ns m c C ss (some (.d x)) (some (.d (.bool true))) none) (setN (x := .d (.bool true)) (call_is (a2_is (x := hs C m c) (y := .d x) rfl rfl) rfl rfl f7) rfl rfl) ?_
      refine ifY (tst_is ((e2_is (x := .d x) (y := .own (knownL m c)) rfl rfl).trans (hn true))) ?_
      exact ifF (tst_is ((e2_is (x := .d (.bool true)) (y := .d (.bool true)) rfl rfl).trans rfl)) rfl
    | true =>
      refine ⟨lδ K ns m c C ss (some (.d x)) (some (.own (qs.map pr ++ [pr (9, 9)]))) none, ?_, _, _, rfl⟩
      refine sqN (δ' := lδ K ns m c C ss (some (.d x)) x7 none) (ifF (not_is' (tst_is (call_is (a2_is (call_is (a2_is (x := hs C m c) (y := .d x) rfl rfl) rfl rfl f1) ((e2_is (x := .d x) (y := .own (knownL m c)) rfl rfl).trans (hn false))) rfl rfl (m_told' true))) rfl) rfl) ?_
      refine sqN (δ' := lδ K ns m c C ss (some (.d x)) (some (.own (qs.map pr))) none) (setN (x := .new (qs.map pr)) (call_is (a2_is (x := hs C m c) (y := .d x) rfl rfl) rfl rfl f7) rfl rfl) ?_
      refine ifF (tst_is ((e2_is (x := .d x) (y := .own (knownL m c)) rfl rfl).trans (hn true))) ?_
      refine ifF (or_no (not_is' (tst_is (eIs_is (b := true) (t := "list") (x := .own (qs.map pr)) rfl rfl (by decide))) rfl) (tst_is ((e2_is (x := .own (qs.map pr)) (y := .new (qs.map pr)) rfl (call_is (a1_is (x := .d x) rfl) rfl rfl f4)).trans ((gEq_prs2 (ps := qs) (qs := qs) rfl rfl).trans ?_)))) ?_
      · simp
      exact app_is (xs := qs.map pr) rfl (t2_is rfl rfl) rfl (by simp; omega)
  obtain ⟨x6, x7, rfl⟩ := hI
  refine forN (I := fun δ => ∃ x6 x7 x8, δ = lδ K ns m c C ss x6 x7 x8) (xs := runI 0 2) ((iR1_is (j := 2) (a1_is rfl) (by decide) (by decide)).trans rfl) ⟨_, _, _, rfl⟩ (fun x hx δ hI => ?_) fun δ hI => ret_is rfl
  obtain ⟨x6, x7, x8, rfl⟩ := hI
  refine ⟨lδ K ns m c C ss x6 (some (.own (knownL m c ++ [rn 0 1 3]))) (some (.d x)), ?_, _, _, _, rfl⟩
  refine sqN (δ' := lδ K ns m c C ss x6 (some (.own (knownL m c))) (some (.d x))) (setN (x := .new (knownL m c)) (call_is (a1_is (x := hs C m c) rfl) rfl rfl (m_melds C m c hm h1 h4)) rfl rfl) ?_
  refine sqN (δ' := lδ K ns m c C ss x6 (some (.own (knownL m c))) (some (.d x))) (ifF (or_no (not_is' (tst_is (eIs_is (b := true) (t := "list") (x := .own (knownL m c)) rfl rfl (by decide))) rfl) (or_no (not_is' (tst_is (b := true) ?_) rfl) (tst_is ((e2_is (x := .own (knownL m c)) (y := .own (knownL m c)) rfl rfl).trans ?_)))) rfl) ?_
  · refine (cb_is (a1_is (eComp_is (xs := knownL m c) (ys := (knownL m c).map fun _ => PyData.bool true) (iLa_is (x := .own (knownL m c)) rfl rfl) (by omega) (comp_map fun d hd => ?_)))).trans ?_
    · exact eIs_is (b := true) (t := "tuple") (x := .d d) rfl (isM_ty (isM_known hd)) (by decide)
    · refine (gAll_new (bs := (knownL m c).map fun _ => true) (by rw [List.map_map]; rfl)).trans ?_
      have ha : ((knownL m c).map fun _ => true).all id = true := by
        rw [List.all_map]
        exact List.all_eq_true.mpr fun _ _ => rfl
      rw [ha]
  · unfold gEq
    simp only [asQ_own]
    have hd : (PyData.list (knownL m c)).depth ≤ 60 := by
      have := depthAll_le (xs := knownL m c) fun x hx => isM_depth (isM_known hx)
      unfold PyData.depth
      omega
    have he : PyData.eqv (.list (knownL m c)) (.list (knownL m c)) = true := eqvAll_self fun x hx => isM_self (isM_known hx)
    rw [if_pos hd, he]
    rfl
  · exact app_is (xs := knownL m c) rfl (t4_is rfl rfl rfl rfl) rfl (by omega)
end K2
set_option Elab.async false
set_option linter.all false
set_option maxRecDepth 100000
set_option maxHeartbeats 1000000
set_option autoImplicit false
namespace K2
open PySem PySem.Spec L2 L3 LW
open PyProof.Rows hiding St
abbrev sInit : Stmt := inClass (top 9) 0
theorem scI : FnScope ["self", "most", "colours"] ["self", "most", "colours"] (defScope sInit) := ⟨rfl, rfl, rfl, by decide +kernel, rfl, by decide +kernel, by decide +kernel⟩
section
variable {P : Program} {w : World} {K : PySem.W.Frag} {mg : Str → Option Value} {base : Heap}
theorem rs_init {H : Hp} {p : V} {m c : Int} : RS [] [] H [some p, some (.int m), some (.int c)] [none, some (.d (.int m)), some (.d (.int c))] := by
  refine ⟨rfl, fun a ha => (nomatch ha), fun a ha => (nomatch ha), fun i x h => ?_, fun i j xs ys v h1 => ?_⟩
  · match i with
    | 0 => cases h
    | 1 => cases h; exact ⟨_, rfl, fun _ => nofun, .int m⟩
    | 2 => cases h; exact ⟨_, rfl, fun _ => nofun, .int c⟩
    | i + 3 => simp at h
  · match i with
    | 0 => cases h1
    | 1 => cases h1
    | 2 => cases h1
    | i + 3 => simp at h1
theorem ok_init {f C CB : Addr} {fd : FuncData} (Fu : Fun K "__init__" "House.__init__" sInit f fd) (T : Tx K mg C) (O : Xc K mg "BadHouse" CB) : FnOk P w K mg base (CXR P w) 1 f fd ["self", "most", "colours"] (spI C CB good "most" "colours") := by
  obtain ⟨oc, od, kV, doc, pm, an, cdv, ct, osl, rfl, lk, hcd⟩ := Fu.ex
  refine fn_of (k := 0) lk hcd scI (fun vs H Q E h => ?_) fun A outer s H vs Q E hr h => ?_
  · obtain ⟨p, dx, m, c, rfl, _⟩ := h
    rfl
  · obtain ⟨p, dx, m, c, rfl, hp, k⟩ := h
    have hu := hu64 hr
    have mk : Makes (cxOf (CXR P w) P w K mg base ["self", "most", "colours"] "House.__init__" (defScope sInit) f cdv A outer s H E) E := ⟨hr.hd, fun pins σ H1 s1 h1 e cls vs I hm hE => xe_made I hm hE⟩
    refine ⟨_, pss_cons (ps_if (pb_not (pb_chain (E := E0) (ov_leX hu) (ov_leX hu) (px_gi T.i_LEAST_NUMBERS) (px_var 1 (pv 1)) (px_gi T.i_MOST_NUMBERS))) (pss_one (ps_raise mk O)) pss_nil)
      (pss_cons (ps_if (pb_not (pb_chain (E := E0) (ov_leX hu) (ov_leX hu) (px_gi T.i_LEAST_COLOURS) (px_var 2 (pv 2)) (px_gi T.i_MOST_COLOURS))) (pss_one (ps_raise mk O)) pss_nil)
      (pss_cons (ps_fld (pv 0) (pv 1) rfl) (pss_one (ps_fld (pv 0) (pv 2) rfl)))), ?_⟩
    refine ⟨[], [], _, .ok (!(decide (3 ≤ m) && decide (m ≤ 13))), rs_init, ?_, fun H1 s1 => ?_⟩
    · unfold bNot eCh
      by_cases h3 : 3 ≤ m <;> by_cases h13 : m ≤ 13 <;> simp [eC, eVar, rt, bd, op, tru, h3, h13]
    by_cases g1 : (decide (3 ≤ m) && decide (m ≤ 13)) = true
    · rw [g1]
      refine iteF ?_
      refine ⟨[], [], _, .ok (!(decide (1 ≤ c) && decide (c ≤ 4))), rs_init, ?_, fun H2 s2 => ?_⟩
      · unfold bNot eCh
        by_cases h3 : 1 ≤ c <;> by_cases h13 : c ≤ 4 <;> simp [eC, eVar, rt, bd, op, tru, h3, h13]
      have kk := k H2 (s1.trans s2)
      by_cases g2 : (decide (1 ≤ c) && decide (c ≤ 4)) = true
      · rw [g2]
        refine iteF ?_
        rw [if_pos (by unfold good; rw [g1, g2]; rfl)] at kk
        refine ⟨_, rfl, _, rfl, p, C, dx, [], rfl, s2 _ _ (s1 _ _ hp), T.cl, T.n_most, by decide, ?_⟩
        exact ⟨_, rfl, _, rfl, p, C, dx, _, rfl, upd_same, T.cl, T.n_colours, by show 1 < 1000; decide, kk⟩
      · have g2' : (decide (1 ≤ c) && decide (c ≤ 4)) = false := by simpa using g2
        rw [g2']
        refine iteT ?_
        rw [if_neg (by unfold good; rw [g1, g2']; simp)] at kk
        exact kk
    · have g1' : (decide (3 ≤ m) && decide (m ≤ 13)) = false := by simpa using g1
      rw [g1']
      refine iteT ?_
      have kk := k H1 s1
      rw [if_neg (by unfold good; rw [g1']; simp)] at kk
      exact kk
end
theorem df_mk {K : PySem.W.Frag} {h : Heap} {mg : Str → Option Value} {x : Str} {st : Stmt} {ps : List Str} {f : Addr} {oc : Value} {od an : Option Addr} {osl : Array (Option Value)} {kV doc pm cdv ct : Value} (X : K.In h) (G : h.Ns mainGlobals mg) (a : PySem.W.nsIn K mainGlobals x = some (some (.ref f)))
    (l : K.lookup f = some ⟨oc, od, .func (PySem.W.fnOf x x (defArgs st) (defBody st) (defScope st) .none kV doc pm an cdv ct), osl⟩) (c : PySem.W.codeIn K cdv x = true) (k : PySem.W.keepIn K (.ref f) = true)
    (hb : ∀ (kV doc pm : Value) (an : Option Addr) (cdv ct : Value) (us : List Value), us.length = ps.length → bindArgs (PySem.W.fnOf x x (defArgs st) (defBody st) (defScope st) .none kV doc pm an cdv ct) ⟨us, []⟩ = pure (ps.zip us)) : Df K mg x st ps :=
  ⟨f, _, fun_mk l c k, PySem.W.mg_of X G a, (fun_mk l c k).binds hb⟩
theorem int_mk {K : PySem.W.Frag} {h : Heap} {mg : Str → Option Value} {x : Str} {i : Int} {t : Tok} (X : K.In h) (G : h.Ns mainGlobals mg) (a : PySem.W.nsIn K mainGlobals x = some (some (.int i t))) : ∃ t, mg x = some (.int i t) := ⟨t, PySem.W.mg_of X G a⟩
theorem xc_mk {K : PySem.W.Frag} {h : Heap} {mg : Str → Option Value} {x : Str} {C : Addr} (X : K.In h) (G : h.Ns mainGlobals mg) (a : PySem.W.nsIn K mainGlobals x = some (some (.ref C))) (e : PySem.W.excIn K C [.type "ValueError", .type "Exception", .type "BaseException", .type "object"] "ValueError.__new__" = true) : Xc K mg x C := ⟨PySem.W.mg_of X G a, e⟩
theorem bd_is_tile (kV doc pm : Value) (an : Option Addr) (cdv ct : Value) (us : List Value) (hl : us.length = (["house", "tile"] : List Str).length) : bindArgs (PySem.W.fnOf "is_tile" "is_tile" (defArgs s_is_tile) (defBody s_is_tile) (defScope s_is_tile) .none kV doc pm an cdv ct) ⟨us, []⟩ = pure ((["house", "tile"] : List Str).zip us) := match us, hl with | [_, _], _ => rfl
theorem bd_is_run (kV doc pm : Value) (an : Option Addr) (cdv ct : Value) (us : List Value) (hl : us.length = (["house", "colour", "first", "size"] : List Str).length) : bindArgs (PySem.W.fnOf "is_run" "is_run" (defArgs s_is_run) (defBody s_is_run) (defScope s_is_run) .none kV doc pm an cdv ct) ⟨us, []⟩ = pure ((["house", "colour", "first", "size"] : List Str).zip us) := match us, hl with | [_, _, _, _], _ => rfl
theorem bd_is_group (kV doc pm : Value) (an : Option Addr) (cdv ct : Value) (us : List Value) (hl : us.length = (["house", "number", "colours"] : List Str).length) : bindArgs (PySem.W.fnOf "is_group" "is_group" (defArgs s_is_group) (defBody s_is_group) (defScope s_is_group) .none kV doc pm an cdv ct) ⟨us, []⟩ = pure ((["house", "number", "colours"] : List Str).zip us) := match us, hl with | [_, _, _], _ => rfl
theorem bd_is_meld (kV doc pm : Value) (an : Option Addr) (cdv ct : Value) (us : List Value) (hl : us.length = (["house", "meld"] : List Str).length) : bindArgs (PySem.W.fnOf "is_meld" "is_meld" (defArgs s_is_meld) (defBody s_is_meld) (defScope s_is_meld) .none kV doc pm an cdv ct) ⟨us, []⟩ = pure ((["house", "meld"] : List Str).zip us) := match us, hl with | [_, _], _ => rfl
theorem bd_tiles_of (kV doc pm : Value) (an : Option Addr) (cdv ct : Value) (us : List Value) (hl : us.length = (["house", "meld"] : List Str).length) : bindArgs (PySem.W.fnOf "tiles_of" "tiles_of" (defArgs s_tiles_of) (defBody s_tiles_of) (defScope s_tiles_of) .none kV doc pm an cdv ct) ⟨us, []⟩ = pure ((["house", "meld"] : List Str).zip us) := match us, hl with | [_, _], _ => rfl
theorem bd_colour_choices (kV doc pm : Value) (an : Option Addr) (cdv ct : Value) (us : List Value) (hl : us.length = (["house"] : List Str).length) : bindArgs (PySem.W.fnOf "colour_choices" "colour_choices" (defArgs s_colour_choices) (defBody s_colour_choices) (defScope s_colour_choices) .none kV doc pm an cdv ct) ⟨us, []⟩ = pure ((["house"] : List Str).zip us) := match us, hl with | [_], _ => rfl
theorem bd_all_groups (kV doc pm : Value) (an : Option Addr) (cdv ct : Value) (us : List Value) (hl : us.length = (["house"] : List Str).length) : bindArgs (PySem.W.fnOf "all_groups" "all_groups" (defArgs s_all_groups) (defBody s_all_groups) (defScope s_all_groups) .none kV doc pm an cdv ct) ⟨us, []⟩ = pure ((["house"] : List Str).zip us) := match us, hl with | [_], _ => rfl
theorem bd_all_runs (kV doc pm : Value) (an : Option Addr) (cdv ct : Value) (us : List Value) (hl : us.length = (["house"] : List Str).length) : bindArgs (PySem.W.fnOf "all_runs" "all_runs" (defArgs s_all_runs) (defBody s_all_runs) (defScope s_all_runs) .none kV doc pm an cdv ct) ⟨us, []⟩ = pure ((["house"] : List Str).zip us) := match us, hl with | [_], _ => rfl
theorem bd_melds (kV doc pm : Value) (an : Option Addr) (cdv ct : Value) (us : List Value) (hl : us.length = (["house"] : List Str).length) : bindArgs (PySem.W.fnOf "melds" "melds" (defArgs s_melds) (defBody s_melds) (defScope s_melds) .none kV doc pm an cdv ct) ⟨us, []⟩ = pure ((["house"] : List Str).zip us) := match us, hl with | [_], _ => rfl
theorem bd__law_cell_at (kV doc pm : Value) (an : Option Addr) (cdv ct : Value) (us : List Value) (hl : us.length = (["script", "k"] : List Str).length) : bindArgs (PySem.W.fnOf "_law_cell_at" "_law_cell_at" (defArgs s__law_cell_at) (defBody s__law_cell_at) (defScope s__law_cell_at) .none kV doc pm an cdv ct) ⟨us, []⟩ = pure ((["script", "k"] : List Str).zip us) := match us, hl with | [_, _], _ => rfl
theorem bd__law_mix (kV doc pm : Value) (an : Option Addr) (cdv ct : Value) (us : List Value) (hl : us.length = (["cell", "k", "many"] : List Str).length) : bindArgs (PySem.W.fnOf "_law_mix" "_law_mix" (defArgs s__law_mix) (defBody s__law_mix) (defScope s__law_mix) .none kV doc pm an cdv ct) ⟨us, []⟩ = pure ((["cell", "k", "many"] : List Str).zip us) := match us, hl with | [_, _, _], _ => rfl
theorem bd__law_told (kV doc pm : Value) (an : Option Addr) (cdv ct : Value) (us : List Value) (hl : us.length = (["found", "due"] : List Str).length) : bindArgs (PySem.W.fnOf "_law_told" "_law_told" (defArgs s__law_told) (defBody s__law_told) (defScope s__law_told) .none kV doc pm an cdv ct) ⟨us, []⟩ = pure ((["found", "due"] : List Str).zip us) := match us, hl with | [_, _], _ => rfl
theorem bd__law_house_by (kV doc pm : Value) (an : Option Addr) (cdv ct : Value) (us : List Value) (hl : us.length = (["script"] : List Str).length) : bindArgs (PySem.W.fnOf "_law_house_by" "_law_house_by" (defArgs s__law_house_by) (defBody s__law_house_by) (defScope s__law_house_by) .none kV doc pm an cdv ct) ⟨us, []⟩ = pure ((["script"] : List Str).zip us) := match us, hl with | [_], _ => rfl
theorem bd__law_tiles (kV doc pm : Value) (an : Option Addr) (cdv ct : Value) (us : List Value) (hl : us.length = (["meld"] : List Str).length) : bindArgs (PySem.W.fnOf "_law_tiles" "_law_tiles" (defArgs s__law_tiles) (defBody s__law_tiles) (defScope s__law_tiles) .none kV doc pm an cdv ct) ⟨us, []⟩ = pure ((["meld"] : List Str).zip us) := match us, hl with | [_], _ => rfl
theorem bd__law_melds (kV doc pm : Value) (an : Option Addr) (cdv ct : Value) (us : List Value) (hl : us.length = (["most", "colours"] : List Str).length) : bindArgs (PySem.W.fnOf "_law_melds" "_law_melds" (defArgs s__law_melds) (defBody s__law_melds) (defScope s__law_melds) .none kV doc pm an cdv ct) ⟨us, []⟩ = pure ((["most", "colours"] : List Str).zip us) := match us, hl with | [_, _], _ => rfl
theorem bd__law_odd (kV doc pm : Value) (an : Option Addr) (cdv ct : Value) (us : List Value) (hl : us.length = (["most", "colours", "cell"] : List Str).length) : bindArgs (PySem.W.fnOf "_law_odd" "_law_odd" (defArgs s__law_odd) (defBody s__law_odd) (defScope s__law_odd) .none kV doc pm an cdv ct) ⟨us, []⟩ = pure ((["most", "colours", "cell"] : List Str).zip us) := match us, hl with | [_, _, _], _ => rfl
theorem bd__law_met (kV doc pm : Value) (an : Option Addr) (cdv ct : Value) (us : List Value) (hl : us.length = (["house", "meld"] : List Str).length) : bindArgs (PySem.W.fnOf "_law_met" "_law_met" (defArgs s__law_met) (defBody s__law_met) (defScope s__law_met) .none kV doc pm an cdv ct) ⟨us, []⟩ = pure ((["house", "meld"] : List Str).zip us) := match us, hl with | [_, _], _ => rfl
theorem bd_init (kV doc pm : Value) (an : Option Addr) (cdv ct : Value) (us : List Value) (hl : us.length = (["self", "most", "colours"] : List Str).length) : bindArgs (PySem.W.fnOf "__init__" "House.__init__" (defArgs sInit) (defBody sInit) (defScope sInit) .none kV doc pm an cdv ct) ⟨us, []⟩ = pure ((["self", "most", "colours"] : List Str).zip us) := match us, hl with | [_, _, _], _ => rfl
def spLaw (K : PySem.W.Frag) : Sp := fun vs H Q _ => ∃ (a : Addr) (ns : List Int), vs = [.ref a] ∧ SqL K H a (ns.map V.int) ∧ ns.length ≤ 63 ∧ ∀ H', Q (.bl true) H'
theorem law_ok {P : Program} {w : World} {K : PySem.W.Frag} {mg : Str → Option Value} {base : Heap} {C E_BadHouse E_BadLaying E_MeldError fI : Addr} {fdI : FuncData} (T : Tx K mg C) (R : Rx K mg E_BadHouse E_BadLaying E_MeldError) (OB : Xc K mg "BadHouse" E_BadHouse) (hM : Mk K C fI) (FI : Fun K "__init__" "House.__init__" sInit fI fdI) (hC : mg "House" = some (.ref C))
    (D_is_tile : Df K mg "is_tile" s_is_tile ["house", "tile"]) (D_is_run : Df K mg "is_run" s_is_run ["house", "colour", "first", "size"]) (D_is_group : Df K mg "is_group" s_is_group ["house", "number", "colours"]) (D_is_meld : Df K mg "is_meld" s_is_meld ["house", "meld"]) (D_tiles_of : Df K mg "tiles_of" s_tiles_of ["house", "meld"]) (D_colour_choices : Df K mg "colour_choices" s_colour_choices ["house"]) (D_all_groups : Df K mg "all_groups" s_all_groups ["house"]) (D_all_runs : Df K mg "all_runs" s_all_runs ["house"]) (D_melds : Df K mg "melds" s_melds ["house"]) (D__law_cell_at : Df K mg "_law_cell_at" s__law_cell_at ["script", "k"]) (D__law_mix : Df K mg "_law_mix" s__law_mix ["cell", "k", "many"]) (D__law_told : Df K mg "_law_told" s__law_told ["found", "due"]) (D__law_house_by : Df K mg "_law_house_by" s__law_house_by ["script"]) (D__law_tiles : Df K mg "_law_tiles" s__law_tiles ["meld"]) (D__law_melds : Df K mg "_law_melds" s__law_melds ["most", "colours"]) (D__law_odd : Df K mg "_law_odd" s__law_odd ["most", "colours", "cell"]) (D__law_met : Df K mg "_law_met" s__law_met ["house", "meld"]) {f : Addr} {fd : FuncData} (Fu : Fun K "law" "law" s_law f fd) : FnOk P w K mg base CX0 6 f fd ["script"] (sp0 1 (M_law K C E_BadHouse E_BadLaying)) := by
  have h_House : HsK P w K mg base C E_BadHouse := ⟨⟨fI, fdI, _, hM, ok_init FI T OB, FI.binds bd_init, hC⟩⟩
  have h_is_tile := h_is_tile (P := P) (w := w) (base := base) T R D_is_tile
  have h_is_run := h_is_run (P := P) (w := w) (base := base) T R D_is_run h_is_tile
  have h_is_group := h_is_group (P := P) (w := w) (base := base) T R D_is_group h_is_tile
  have h_is_meld := h_is_meld (P := P) (w := w) (base := base) T R D_is_meld h_is_run h_is_group
  have h_tiles_of := h_tiles_of (P := P) (w := w) (base := base) T R D_tiles_of h_is_meld
  have h_colour_choices := h_colour_choices (P := P) (w := w) (base := base) T R D_colour_choices
  have h_all_groups := h_all_groups (P := P) (w := w) (base := base) T R D_all_groups h_colour_choices
  have h_all_runs := h_all_runs (P := P) (w := w) (base := base) T R D_all_runs
  have h_melds := h_melds (P := P) (w := w) (base := base) T R D_melds h_all_groups h_all_runs
  have h__law_cell_at := h__law_cell_at (P := P) (w := w) (base := base) T R D__law_cell_at
  have h__law_mix := h__law_mix (P := P) (w := w) (base := base) T R D__law_mix
  have h__law_told := h__law_told (P := P) (w := w) (base := base) T R D__law_told
  have h__law_house_by := h__law_house_by (P := P) (w := w) (base := base) T R D__law_house_by h__law_cell_at h__law_mix
  have h__law_tiles := h__law_tiles (P := P) (w := w) (base := base) T R D__law_tiles
  have h__law_melds := h__law_melds (P := P) (w := w) (base := base) T R D__law_melds
  have h__law_odd := h__law_odd (P := P) (w := w) (base := base) T R D__law_odd h__law_mix
  have h__law_met := h__law_met (P := P) (w := w) (base := base) T R D__law_met h_tiles_of
  exact ok_law T R Fu h_House h__law_house_by h__law_melds h__law_cell_at h__law_odd h_is_meld h__law_told h__law_met h__law_tiles h_melds
theorem law_fn {P : Program} {w : World} {K : PySem.W.Frag} {mg : Str → Option Value} {base : Heap} {C E_BadHouse E_BadLaying E_MeldError : Addr} {k : Nat} {f : Addr} {fd : FuncData} {ps : List Str} (math : ∀ ns : List Int, ns.length ≤ 63 → M_law K C E_BadHouse E_BadLaying [.scr K ns] = rt (.d (.bool true))) (F : FnOk P w K mg base CX0 k f fd ps (sp0 1 (M_law K C E_BadHouse E_BadLaying))) : FnOk P w K mg base CX0 k f fd ps (spLaw K) :=
  F.imp fun vs H Q E ⟨a, ns, ev, hS, hl, hq⟩ => by
    subst ev
    refine ⟨rfl, [], [.scr K ns], _, fun a ha => (nomatch ha), .cons ⟨a, rfl, hS.imp (fun z => ⟨nofun, z⟩) fun z => z⟩ .nil, math ns hl, fun v H' _ rv => ?_⟩
    cases rv
    exact hq H'
theorem all_mk {l : PySem.W.OpenLaw} {w : World} {K : PySem.W.Frag} {h : Heap} {mg : Str → Option Value} {fa C E_BadHouse E_BadLaying E_MeldError fI f_is_tile f_is_run f_is_group f_is_meld f_tiles_of f_colour_choices f_all_groups f_all_runs f_melds f__law_cell_at f__law_mix f__law_told f__law_house_by f__law_tiles f__law_melds f__law_odd f__law_met f_law : Addr} {od_is_tile an_is_tile od_is_run an_is_run od_is_group an_is_group od_is_meld an_is_meld od_tiles_of an_tiles_of od_colour_choices an_colour_choices od_all_groups an_all_groups od_all_runs an_all_runs od_melds an_melds od__law_cell_at an__law_cell_at od__law_mix an__law_mix od__law_told an__law_told od__law_house_by an__law_house_by od__law_tiles an__law_tiles od__law_melds an__law_melds od__law_odd an__law_odd od__law_met an__law_met od_law an_law od_I an_I : Option Addr} {sl_is_tile sl_is_run sl_is_group sl_is_meld sl_tiles_of sl_colour_choices sl_all_groups sl_all_runs sl_melds sl__law_cell_at sl__law_mix sl__law_told sl__law_house_by sl__law_tiles sl__law_melds sl__law_odd sl__law_met sl_law sl_I : Array (Option Value)} {oc_is_tile kV_is_tile dc_is_tile pm_is_tile cd_is_tile ct_is_tile oc_is_run kV_is_run dc_is_run pm_is_run cd_is_run ct_is_run oc_is_group kV_is_group dc_is_group pm_is_group cd_is_group ct_is_group oc_is_meld kV_is_meld dc_is_meld pm_is_meld cd_is_meld ct_is_meld oc_tiles_of kV_tiles_of dc_tiles_of pm_tiles_of cd_tiles_of ct_tiles_of oc_colour_choices kV_colour_choices dc_colour_choices pm_colour_choices cd_colour_choices ct_colour_choices oc_all_groups kV_all_groups dc_all_groups pm_all_groups cd_all_groups ct_all_groups oc_all_runs kV_all_runs dc_all_runs pm_all_runs cd_all_runs ct_all_runs oc_melds kV_melds dc_melds pm_melds cd_melds ct_melds oc__law_cell_at kV__law_cell_at dc__law_cell_at pm__law_cell_at cd__law_cell_at ct__law_cell_at oc__law_mix kV__law_mix dc__law_mix pm__law_mix cd__law_mix ct__law_mix oc__law_told kV__law_told dc__law_told pm__law_told cd__law_told ct__law_told oc__law_house_by kV__law_house_by dc__law_house_by pm__law_house_by cd__law_house_by ct__law_house_by oc__law_tiles kV__law_tiles dc__law_tiles pm__law_tiles cd__law_tiles ct__law_tiles oc__law_melds kV__law_melds dc__law_melds pm__law_melds cd__law_melds ct__law_melds oc__law_odd kV__law_odd dc__law_odd pm__law_odd cd__law_odd ct__law_odd oc__law_met kV__law_met dc__law_met pm__law_met cd__law_met ct__law_met oc_law kV_law dc_law pm_law cd_law ct_law oc_I kV_I dc_I pm_I cd_I ct_I : Value} {t_LEAST_NUMBERS t_MOST_NUMBERS t_LEAST_COLOURS t_MOST_COLOURS t_LEAST_SIZE : Tok} (X : K.In h) (G : h.Ns mainGlobals mg) (hfa : mg "law" = some (.ref fa))
    (a_is_tile : PySem.W.nsIn K mainGlobals "is_tile" = some (some (.ref f_is_tile)))
    (l_is_tile : K.lookup f_is_tile = some ⟨oc_is_tile, od_is_tile, .func (PySem.W.fnOf "is_tile" "is_tile" (defArgs s_is_tile) (defBody s_is_tile) (defScope s_is_tile) .none kV_is_tile dc_is_tile pm_is_tile an_is_tile cd_is_tile ct_is_tile), sl_is_tile⟩)
    (c_is_tile : PySem.W.codeIn K cd_is_tile "is_tile" = true)
    (k_is_tile : PySem.W.keepIn K (.ref f_is_tile) = true)
    (a_is_run : PySem.W.nsIn K mainGlobals "is_run" = some (some (.ref f_is_run)))
    (l_is_run : K.lookup f_is_run = some ⟨oc_is_run, od_is_run, .func (PySem.W.fnOf "is_run" "is_run" (defArgs s_is_run) (defBody s_is_run) (defScope s_is_run) .none kV_is_run dc_is_run pm_is_run an_is_run cd_is_run ct_is_run), sl_is_run⟩)
    (c_is_run : PySem.W.codeIn K cd_is_run "is_run" = true)
    (k_is_run : PySem.W.keepIn K (.ref f_is_run) = true)
    (a_is_group : PySem.W.nsIn K mainGlobals "is_group" = some (some (.ref f_is_group)))
    (l_is_group : K.lookup f_is_group = some ⟨oc_is_group, od_is_group, .func (PySem.W.fnOf "is_group" "is_group" (defArgs s_is_group) (defBody s_is_group) (defScope s_is_group) .none kV_is_group dc_is_group pm_is_group an_is_group cd_is_group ct_is_group), sl_is_group⟩)
    (c_is_group : PySem.W.codeIn K cd_is_group "is_group" = true)
    (k_is_group : PySem.W.keepIn K (.ref f_is_group) = true)
    (a_is_meld : PySem.W.nsIn K mainGlobals "is_meld" = some (some (.ref f_is_meld)))
    (l_is_meld : K.lookup f_is_meld = some ⟨oc_is_meld, od_is_meld, .func (PySem.W.fnOf "is_meld" "is_meld" (defArgs s_is_meld) (defBody s_is_meld) (defScope s_is_meld) .none kV_is_meld dc_is_meld pm_is_meld an_is_meld cd_is_meld ct_is_meld), sl_is_meld⟩)
    (c_is_meld : PySem.W.codeIn K cd_is_meld "is_meld" = true)
    (k_is_meld : PySem.W.keepIn K (.ref f_is_meld) = true)
    (a_tiles_of : PySem.W.nsIn K mainGlobals "tiles_of" = some (some (.ref f_tiles_of)))
    (l_tiles_of : K.lookup f_tiles_of = some ⟨oc_tiles_of, od_tiles_of, .func (PySem.W.fnOf "tiles_of" "tiles_of" (defArgs s_tiles_of) (defBody s_tiles_of) (defScope s_tiles_of) .none kV_tiles_of dc_tiles_of pm_tiles_of an_tiles_of cd_tiles_of ct_tiles_of), sl_tiles_of⟩)
    (c_tiles_of : PySem.W.codeIn K cd_tiles_of "tiles_of" = true)
    (k_tiles_of : PySem.W.keepIn K (.ref f_tiles_of) = true)
    (a_colour_choices : PySem.W.nsIn K mainGlobals "colour_choices" = some (some (.ref f_colour_choices)))
    (l_colour_choices : K.lookup f_colour_choices = some ⟨oc_colour_choices, od_colour_choices, .func (PySem.W.fnOf "colour_choices" "colour_choices" (defArgs s_colour_choices) (defBody s_colour_choices) (defScope s_colour_choices) .none kV_colour_choices dc_colour_choices pm_colour_choices an_colour_choices cd_colour_choices ct_colour_choices), sl_colour_choices⟩)
    (c_colour_choices : PySem.W.codeIn K cd_colour_choices "colour_choices" = true)
    (k_colour_choices : PySem.W.keepIn K (.ref f_colour_choices) = true)
    (a_all_groups : PySem.W.nsIn K mainGlobals "all_groups" = some (some (.ref f_all_groups)))
    (l_all_groups : K.lookup f_all_groups = some ⟨oc_all_groups, od_all_groups, .func (PySem.W.fnOf "all_groups" "all_groups" (defArgs s_all_groups) (defBody s_all_groups) (defScope s_all_groups) .none kV_all_groups dc_all_groups pm_all_groups an_all_groups cd_all_groups ct_all_groups), sl_all_groups⟩)
    (c_all_groups : PySem.W.codeIn K cd_all_groups "all_groups" = true)
    (k_all_groups : PySem.W.keepIn K (.ref f_all_groups) = true)
    (a_all_runs : PySem.W.nsIn K mainGlobals "all_runs" = some (some (.ref f_all_runs)))
    (l_all_runs : K.lookup f_all_runs = some ⟨oc_all_runs, od_all_runs, .func (PySem.W.fnOf "all_runs" "all_runs" (defArgs s_all_runs) (defBody s_all_runs) (defScope s_all_runs) .none kV_all_runs dc_all_runs pm_all_runs an_all_runs cd_all_runs ct_all_runs), sl_all_runs⟩)
    (c_all_runs : PySem.W.codeIn K cd_all_runs "all_runs" = true)
    (k_all_runs : PySem.W.keepIn K (.ref f_all_runs) = true)
    (a_melds : PySem.W.nsIn K mainGlobals "melds" = some (some (.ref f_melds)))
    (l_melds : K.lookup f_melds = some ⟨oc_melds, od_melds, .func (PySem.W.fnOf "melds" "melds" (defArgs s_melds) (defBody s_melds) (defScope s_melds) .none kV_melds dc_melds pm_melds an_melds cd_melds ct_melds), sl_melds⟩)
    (c_melds : PySem.W.codeIn K cd_melds "melds" = true)
    (k_melds : PySem.W.keepIn K (.ref f_melds) = true)
    (a__law_cell_at : PySem.W.nsIn K mainGlobals "_law_cell_at" = some (some (.ref f__law_cell_at)))
    (l__law_cell_at : K.lookup f__law_cell_at = some ⟨oc__law_cell_at, od__law_cell_at, .func (PySem.W.fnOf "_law_cell_at" "_law_cell_at" (defArgs s__law_cell_at) (defBody s__law_cell_at) (defScope s__law_cell_at) .none kV__law_cell_at dc__law_cell_at pm__law_cell_at an__law_cell_at cd__law_cell_at ct__law_cell_at), sl__law_cell_at⟩)
    (c__law_cell_at : PySem.W.codeIn K cd__law_cell_at "_law_cell_at" = true)
    (k__law_cell_at : PySem.W.keepIn K (.ref f__law_cell_at) = true)
    (a__law_mix : PySem.W.nsIn K mainGlobals "_law_mix" = some (some (.ref f__law_mix)))
    (l__law_mix : K.lookup f__law_mix = some ⟨oc__law_mix, od__law_mix, .func (PySem.W.fnOf "_law_mix" "_law_mix" (defArgs s__law_mix) (defBody s__law_mix) (defScope s__law_mix) .none kV__law_mix dc__law_mix pm__law_mix an__law_mix cd__law_mix ct__law_mix), sl__law_mix⟩)
    (c__law_mix : PySem.W.codeIn K cd__law_mix "_law_mix" = true)
    (k__law_mix : PySem.W.keepIn K (.ref f__law_mix) = true)
    (a__law_told : PySem.W.nsIn K mainGlobals "_law_told" = some (some (.ref f__law_told)))
    (l__law_told : K.lookup f__law_told = some ⟨oc__law_told, od__law_told, .func (PySem.W.fnOf "_law_told" "_law_told" (defArgs s__law_told) (defBody s__law_told) (defScope s__law_told) .none kV__law_told dc__law_told pm__law_told an__law_told cd__law_told ct__law_told), sl__law_told⟩)
    (c__law_told : PySem.W.codeIn K cd__law_told "_law_told" = true)
    (k__law_told : PySem.W.keepIn K (.ref f__law_told) = true)
    (a__law_house_by : PySem.W.nsIn K mainGlobals "_law_house_by" = some (some (.ref f__law_house_by)))
    (l__law_house_by : K.lookup f__law_house_by = some ⟨oc__law_house_by, od__law_house_by, .func (PySem.W.fnOf "_law_house_by" "_law_house_by" (defArgs s__law_house_by) (defBody s__law_house_by) (defScope s__law_house_by) .none kV__law_house_by dc__law_house_by pm__law_house_by an__law_house_by cd__law_house_by ct__law_house_by), sl__law_house_by⟩)
    (c__law_house_by : PySem.W.codeIn K cd__law_house_by "_law_house_by" = true)
    (k__law_house_by : PySem.W.keepIn K (.ref f__law_house_by) = true)
    (a__law_tiles : PySem.W.nsIn K mainGlobals "_law_tiles" = some (some (.ref f__law_tiles)))
    (l__law_tiles : K.lookup f__law_tiles = some ⟨oc__law_tiles, od__law_tiles, .func (PySem.W.fnOf "_law_tiles" "_law_tiles" (defArgs s__law_tiles) (defBody s__law_tiles) (defScope s__law_tiles) .none kV__law_tiles dc__law_tiles pm__law_tiles an__law_tiles cd__law_tiles ct__law_tiles), sl__law_tiles⟩)
    (c__law_tiles : PySem.W.codeIn K cd__law_tiles "_law_tiles" = true)
    (k__law_tiles : PySem.W.keepIn K (.ref f__law_tiles) = true)
    (a__law_melds : PySem.W.nsIn K mainGlobals "_law_melds" = some (some (.ref f__law_melds)))
    (l__law_melds : K.lookup f__law_melds = some ⟨oc__law_melds, od__law_melds, .func (PySem.W.fnOf "_law_melds" "_law_melds" (defArgs s__law_melds) (defBody s__law_melds) (defScope s__law_melds) .none kV__law_melds dc__law_melds pm__law_melds an__law_melds cd__law_melds ct__law_melds), sl__law_melds⟩)
    (c__law_melds : PySem.W.codeIn K cd__law_melds "_law_melds" = true)
    (k__law_melds : PySem.W.keepIn K (.ref f__law_melds) = true)
    (a__law_odd : PySem.W.nsIn K mainGlobals "_law_odd" = some (some (.ref f__law_odd)))
    (l__law_odd : K.lookup f__law_odd = some ⟨oc__law_odd, od__law_odd, .func (PySem.W.fnOf "_law_odd" "_law_odd" (defArgs s__law_odd) (defBody s__law_odd) (defScope s__law_odd) .none kV__law_odd dc__law_odd pm__law_odd an__law_odd cd__law_odd ct__law_odd), sl__law_odd⟩)
    (c__law_odd : PySem.W.codeIn K cd__law_odd "_law_odd" = true)
    (k__law_odd : PySem.W.keepIn K (.ref f__law_odd) = true)
    (a__law_met : PySem.W.nsIn K mainGlobals "_law_met" = some (some (.ref f__law_met)))
    (l__law_met : K.lookup f__law_met = some ⟨oc__law_met, od__law_met, .func (PySem.W.fnOf "_law_met" "_law_met" (defArgs s__law_met) (defBody s__law_met) (defScope s__law_met) .none kV__law_met dc__law_met pm__law_met an__law_met cd__law_met ct__law_met), sl__law_met⟩)
    (c__law_met : PySem.W.codeIn K cd__law_met "_law_met" = true)
    (k__law_met : PySem.W.keepIn K (.ref f__law_met) = true)
    (a_law : PySem.W.nsIn K mainGlobals "law" = some (some (.ref f_law)))
    (l_law : K.lookup f_law = some ⟨oc_law, od_law, .func (PySem.W.fnOf "law" "law" (defArgs s_law) (defBody s_law) (defScope s_law) .none kV_law dc_law pm_law an_law cd_law ct_law), sl_law⟩)
    (c_law : PySem.W.codeIn K cd_law "law" = true)
    (k_law : PySem.W.keepIn K (.ref f_law) = true)
    (aC : PySem.W.nsIn K mainGlobals "House" = some (some (.ref C)))
    (aI : PySem.W.findIn K (.ref C) "__init__" = some (some (.ref fI)))
    (iI : PySem.W.isFn K (.ref fI) = true)
    (lI : K.lookup fI = some ⟨oc_I, od_I, .func (PySem.W.fnOf "__init__" "House.__init__" (defArgs sInit) (defBody sInit) (defScope sInit) .none kV_I dc_I pm_I an_I cd_I ct_I), sl_I⟩)
    (cI : PySem.W.codeIn K cd_I "House.__init__" = true)
    (kI : PySem.W.keepIn K (.ref fI) = true)
    (pg : PySem.W.plainGet K C Str.empty = true)
    (hd : PySem.W.hasDictIn K C = true)
    (po : PySem.W.plainOver K C = true)
    (sa : PySem.W.findIn K (.ref C) "__setattr__" = some (some (.builtin "object.__setattr__")))
    (mk : PySem.W.makesIn K C = true)
    (kc : PySem.W.keepIn K (.ref C) = true)
    (n_colours : PySem.W.findIn K (.ref C) "colours" = some none)
    (n_most : PySem.W.findIn K (.ref C) "most" = some none)
    (i_LEAST_NUMBERS : PySem.W.nsIn K mainGlobals "LEAST_NUMBERS" = some (some (.int 3 t_LEAST_NUMBERS)))
    (i_MOST_NUMBERS : PySem.W.nsIn K mainGlobals "MOST_NUMBERS" = some (some (.int 13 t_MOST_NUMBERS)))
    (i_LEAST_COLOURS : PySem.W.nsIn K mainGlobals "LEAST_COLOURS" = some (some (.int 1 t_LEAST_COLOURS)))
    (i_MOST_COLOURS : PySem.W.nsIn K mainGlobals "MOST_COLOURS" = some (some (.int 4 t_MOST_COLOURS)))
    (i_LEAST_SIZE : PySem.W.nsIn K mainGlobals "LEAST_SIZE" = some (some (.int 3 t_LEAST_SIZE)))
    (b_all : PySem.W.nsIn K mainGlobals "all" = some none)
    (b_bool : PySem.W.nsIn K mainGlobals "bool" = some none)
    (b_isinstance : PySem.W.nsIn K mainGlobals "isinstance" = some none)
    (b_len : PySem.W.nsIn K mainGlobals "len" = some none)
    (b_list : PySem.W.nsIn K mainGlobals "list" = some none)
    (b_range : PySem.W.nsIn K mainGlobals "range" = some none)
    (b_sorted : PySem.W.nsIn K mainGlobals "sorted" = some none)
    (b_tuple : PySem.W.nsIn K mainGlobals "tuple" = some none)
    (a_E_BadHouse : PySem.W.nsIn K mainGlobals "BadHouse" = some (some (.ref E_BadHouse)))
    (a_E_BadLaying : PySem.W.nsIn K mainGlobals "BadLaying" = some (some (.ref E_BadLaying)))
    (a_E_MeldError : PySem.W.nsIn K mainGlobals "MeldError" = some (some (.ref E_MeldError)))
    (e_E_BadHouse : PySem.W.excIn K E_BadHouse [.type "ValueError", .type "Exception", .type "BaseException", .type "object"] "ValueError.__new__" = true)
    (e_E_BadLaying : PySem.W.excIn K E_BadLaying [.type "ValueError", .type "Exception", .type "BaseException", .type "object"] "ValueError.__new__" = true)
    (q_BadLaying_MeldError : PySem.W.kitOne K (.ref E_BadLaying) (.ref E_MeldError) = some true) :
    ∃ fd : FuncData, (∀ (s : Shared) (v : Value), BindsTo s fd ⟨[v], []⟩ [("script", v)]) ∧ ∀ base : Heap, K.In base → base.Ns mainGlobals mg → FnOk l.prog w K mg base CX0 6 fa fd ["script"] (spLaw K) := by
  have e := hfa.symm.trans (PySem.W.mg_of X G a_law)
  cases e
  have T : Tx K mg C := ⟨⟨pg, hd, po, sa⟩, n_colours, n_most, int_mk X G i_LEAST_NUMBERS, int_mk X G i_MOST_NUMBERS, int_mk X G i_LEAST_COLOURS, int_mk X G i_MOST_COLOURS, int_mk X G i_LEAST_SIZE, PySem.W.mg_none_of X G b_all, PySem.W.mg_none_of X G b_bool, PySem.W.mg_none_of X G b_isinstance, PySem.W.mg_none_of X G b_len, PySem.W.mg_none_of X G b_list, PySem.W.mg_none_of X G b_range, PySem.W.mg_none_of X G b_sorted, PySem.W.mg_none_of X G b_tuple⟩
  have R : Rx K mg E_BadHouse E_BadLaying E_MeldError := ⟨xc_mk X G a_E_BadLaying e_E_BadLaying, q_BadLaying_MeldError, PySem.W.mg_of X G a_E_MeldError⟩
  refine ⟨PySem.W.fnOf "law" "law" (defArgs s_law) (defBody s_law) (defScope s_law) .none kV_law dc_law pm_law an_law cd_law ct_law, fun s v => .of_eq rfl, fun base kb nb => ?_⟩
  refine law_fn (C := C) (E_BadHouse := E_BadHouse) (E_BadLaying := E_BadLaying) (E_MeldError := E_MeldError) (fun ns hl => math K C E_BadHouse E_BadLaying ns hl) ?_
  exact law_ok (P := l.prog) (w := w) (base := base) T R (xc_mk X G a_E_BadHouse e_E_BadHouse) ⟨mk, aI, iI, kc⟩ (fun_mk lI cI kI) (PySem.W.mg_of X G aC) (df_mk X G a_is_tile l_is_tile c_is_tile k_is_tile bd_is_tile) (df_mk X G a_is_run l_is_run c_is_run k_is_run bd_is_run) (df_mk X G a_is_group l_is_group c_is_group k_is_group bd_is_group) (df_mk X G a_is_meld l_is_meld c_is_meld k_is_meld bd_is_meld) (df_mk X G a_tiles_of l_tiles_of c_tiles_of k_tiles_of bd_tiles_of) (df_mk X G a_colour_choices l_colour_choices c_colour_choices k_colour_choices bd_colour_choices) (df_mk X G a_all_groups l_all_groups c_all_groups k_all_groups bd_all_groups) (df_mk X G a_all_runs l_all_runs c_all_runs k_all_runs bd_all_runs) (df_mk X G a_melds l_melds c_melds k_melds bd_melds) (df_mk X G a__law_cell_at l__law_cell_at c__law_cell_at k__law_cell_at bd__law_cell_at) (df_mk X G a__law_mix l__law_mix c__law_mix k__law_mix bd__law_mix) (df_mk X G a__law_told l__law_told c__law_told k__law_told bd__law_told) (df_mk X G a__law_house_by l__law_house_by c__law_house_by k__law_house_by bd__law_house_by) (df_mk X G a__law_tiles l__law_tiles c__law_tiles k__law_tiles bd__law_tiles) (df_mk X G a__law_melds l__law_melds c__law_melds k__law_melds bd__law_melds) (df_mk X G a__law_odd l__law_odd c__law_odd k__law_odd bd__law_odd) (df_mk X G a__law_met l__law_met c__law_met k__law_met bd__law_met) (fun_mk l_law c_law k_law)
theorem walk {l : PySem.W.OpenLaw} {q : Program} {loose : List Str} {XP : (Str → Option Value) → Heap → Prop} {YP : World → Heap → Prop} {d : DefRec} {K : Params → PySem.W.Frag} (hn : l.most = some 63) (hdf : d.params.defaults = [])
    (hY : ∀ (w : World) (h : Heap), YP w h → (K w.params).In h)
    (F : ∀ (w : World) (mg : Str → Option Value) (fa : Addr) (h : Heap), (K w.params).In h → h.Ns mainGlobals mg → mg d.name = some (.ref fa) →
      ∃ fd : FuncData, (∀ (s : Shared) (u : Value), BindsTo s fd ⟨[u], []⟩ [("script", u)]) ∧ ∀ base : Heap, (K w.params).In base → base.Ns mainGlobals mg → FnOk l.prog w (K w.params) mg base CX0 6 fa fd ["script"] (spLaw (K w.params))) :
    PySem.W.WalkO q loose XP YP l.row.toRowW d [] (fun f vs => PySem.call f vs) :=
  L2.walk_of (n := 63) (k := 6) (x := "script") (CX := fun _ => CX0) (sp := fun w => spLaw (K w.params)) hn (by decide) hdf ⟨rfl, by decide, by decide⟩ hY F (fun _ _ a ns hl _ hS => ⟨a, ns, rfl, hS, hl, fun _ => rfl⟩) fun _ _ _ _ _ z => z
end K2
open PySem PySem.W PyProof.Rows L2 L3 LW K2
set_option maxRecDepth 100000 in
set_option maxHeartbeats 0 in
theorem PySem.Challenge.cw_meldhouse_k02_melds_holds : PySem.Challenge.rw_meldhouse_k02_melds.Holds := by
  w_on; o_law; k_head; (case hw => w_witness2)
  k_fill
  refine K2.walk (l := PySem.Challenge.rw_meldhouse_k02_melds) rfl rfl (fun w h Y => PySem.W.kIn_of Y) ?F
  case F =>
    intro w mg fa h KX G hmg
    refine' K2.all_mk KX G hmg ?a_is_tile ?l_is_tile ?c_is_tile ?k_is_tile ?a_is_run ?l_is_run ?c_is_run ?k_is_run ?a_is_group ?l_is_group ?c_is_group ?k_is_group ?a_is_meld ?l_is_meld ?c_is_meld ?k_is_meld ?a_tiles_of ?l_tiles_of ?c_tiles_of ?k_tiles_of ?a_colour_choices ?l_colour_choices ?c_colour_choices ?k_colour_choices ?a_all_groups ?l_all_groups ?c_all_groups ?k_all_groups ?a_all_runs ?l_all_runs ?c_all_runs ?k_all_runs ?a_melds ?l_melds ?c_melds ?k_melds ?a__law_cell_at ?l__law_cell_at ?c__law_cell_at ?k__law_cell_at ?a__law_mix ?l__law_mix ?c__law_mix ?k__law_mix ?a__law_told ?l__law_told ?c__law_told ?k__law_told ?a__law_house_by ?l__law_house_by ?c__law_house_by ?k__law_house_by ?a__law_tiles ?l__law_tiles ?c__law_tiles ?k__law_tiles ?a__law_melds ?l__law_melds ?c__law_melds ?k__law_melds ?a__law_odd ?l__law_odd ?c__law_odd ?k__law_odd ?a__law_met ?l__law_met ?c__law_met ?k__law_met ?a_law ?l_law ?c_law ?k_law ?aC ?aI ?iI ?lI ?cI ?kI ?pg ?hd ?po ?sa ?mk ?kc ?n_colours ?n_most ?i_LEAST_NUMBERS ?i_MOST_NUMBERS ?i_LEAST_COLOURS ?i_MOST_COLOURS ?i_LEAST_SIZE ?b_all ?b_bool ?b_isinstance ?b_len ?b_list ?b_range ?b_sorted ?b_tuple ?a_E_BadHouse ?a_E_BadLaying ?a_E_MeldError ?e_E_BadHouse ?e_E_BadLaying ?q_BadLaying_MeldError
    (case a_is_tile => k_is)
    (case l_is_tile => k_is)
    (case c_is_tile => k_is)
    (case k_is_tile => k_is)
    (case a_is_run => k_is)
    (case l_is_run => k_is)
    (case c_is_run => k_is)
    (case k_is_run => k_is)
    (case a_is_group => k_is)
    (case l_is_group => k_is)
    (case c_is_group => k_is)
    (case k_is_group => k_is)
    (case a_is_meld => k_is)
    (case l_is_meld => k_is)
    (case c_is_meld => k_is)
    (case k_is_meld => k_is)
    (case a_tiles_of => k_is)
    (case l_tiles_of => k_is)
    (case c_tiles_of => k_is)
    (case k_tiles_of => k_is)
    (case a_colour_choices => k_is)
    (case l_colour_choices => k_is)
    (case c_colour_choices => k_is)
    (case k_colour_choices => k_is)
    (case a_all_groups => k_is)
    (case l_all_groups => k_is)
    (case c_all_groups => k_is)
    (case k_all_groups => k_is)
    (case a_all_runs => k_is)
    (case l_all_runs => k_is)
    (case c_all_runs => k_is)
    (case k_all_runs => k_is)
    (case a_melds => k_is)
    (case l_melds => k_is)
    (case c_melds => k_is)
    (case k_melds => k_is)
    (case a__law_cell_at => k_is)
    (case l__law_cell_at => k_is)
    (case c__law_cell_at => k_is)
    (case k__law_cell_at => k_is)
    (case a__law_mix => k_is)
    (case l__law_mix => k_is)
    (case c__law_mix => k_is)
    (case k__law_mix => k_is)
    (case a__law_told => k_is)
    (case l__law_told => k_is)
    (case c__law_told => k_is)
    (case k__law_told => k_is)
    (case a__law_house_by => k_is)
    (case l__law_house_by => k_is)
    (case c__law_house_by => k_is)
    (case k__law_house_by => k_is)
    (case a__law_tiles => k_is)
    (case l__law_tiles => k_is)
    (case c__law_tiles => k_is)
    (case k__law_tiles => k_is)
    (case a__law_melds => k_is)
    (case l__law_melds => k_is)
    (case c__law_melds => k_is)
    (case k__law_melds => k_is)
    (case a__law_odd => k_is)
    (case l__law_odd => k_is)
    (case c__law_odd => k_is)
    (case k__law_odd => k_is)
    (case a__law_met => k_is)
    (case l__law_met => k_is)
    (case c__law_met => k_is)
    (case k__law_met => k_is)
    (case a_law => k_is)
    (case l_law => k_is)
    (case c_law => k_is)
    (case k_law => k_is)
    (case aC => k_is)
    (case aI => k_is)
    (case iI => k_is)
    (case lI => k_is)
    (case cI => k_is)
    (case kI => k_is)
    (case pg => k_is)
    (case hd => k_is)
    (case po => k_is)
    (case sa => k_is)
    (case mk => k_is)
    (case kc => k_is)
    (case n_colours => k_is)
    (case n_most => k_is)
    (case i_LEAST_NUMBERS => k_is)
    (case i_MOST_NUMBERS => k_is)
    (case i_LEAST_COLOURS => k_is)
    (case i_MOST_COLOURS => k_is)
    (case i_LEAST_SIZE => k_is)
    (case b_all => k_is)
    (case b_bool => k_is)
    (case b_isinstance => k_is)
    (case b_len => k_is)
    (case b_list => k_is)
    (case b_range => k_is)
    (case b_sorted => k_is)
    (case b_tuple => k_is)
    (case a_E_BadHouse => k_is)
    (case a_E_BadLaying => k_is)
    (case a_E_MeldError => k_is)
    (case e_E_BadHouse => k_exc)
    (case e_E_BadLaying => k_exc)
    (case q_BadLaying_MeldError => kit_is)
